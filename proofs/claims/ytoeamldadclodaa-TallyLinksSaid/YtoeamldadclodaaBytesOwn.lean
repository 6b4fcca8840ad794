/- A slice of bytes that came in. Bytes that the call itself collects: append of one, append of all bytes of a slice, as steps of the walk. -/
import Derived.Test.YtoeamldadclodaaLaw
import Derived.Test.YtoeamldadclodaaMake
import Derived.Laws.AppendOwnNone
namespace Go.Proofs.Ytoeamldadclodaa
open Go.ChangeShapes Go.WideShapes Go.ChangeAt Go.RowKit

theorem u8_nat {a : Int} (h : (Lit.int .u8 a).wf = true) : ∃ x : Nat, x < 256 ∧ a = (x : Int) := by
  simp [Lit.wf, IntKind.min, IntKind.max, IntKind.bits, IntKind.signed] at h
  exact ⟨a.toNat, by omega, by omega⟩

/-- a slice of bytes, as it lies. -/
def Bys (w : World) (B : Nat) (A : Option Addr) (n : Nat) (V : Nat → Nat) : Prop :=
  ∀ k, k < n → ∃ ad : Addr, A = some ad ∧ ad.block < B ∧ w.cell? (ad.add k) = some (.int .u8 ((V k : Nat) : Int)) ∧ V k < 256
theorem Bys.below {w w' : World} {B : Nat} {A : Option Addr} {n : Nat} {V : Nat → Nat} (h : Bys w B A n V) (hb : Below B w w') : Bys w' B A n V := fun k hk => by
  obtain ⟨ad, e, h1, h2, h3⟩ := h k hk
  exact ⟨ad, e, h1, (hb.cell (by rw [add_block]; exact h1)).trans h2, h3⟩
theorem Bys.mono_ {w : World} {B B' : Nat} {A : Option Addr} {n : Nat} {V : Nat → Nat} (h : Bys w B A n V) (hB : B ≤ B') : Bys w B' A n V := fun k hk => by
  obtain ⟨ad, e, h1, h2, h3⟩ := h k hk
  exact ⟨ad, e, Nat.lt_of_lt_of_le h1 hB, h2, h3⟩

theorem cells_u8 : Try.prog.cellsOf 5 = 1 := by kernel_rfl

section
variable {H : Type} {enc : TypeId × Value → H}
set_option maxRecDepth 100000 in
theorem open_bytes {W : World} {v : Value} {d : DataW H} {p : List MemPlace} {b : Nat} {r : Reach} (hv : Value.okWide Try.prog W r b 34 v) (h : DataW.Trod enc Try.prog W 0 (fun _ => true) true 34 v d p) :
    ∃ (A : Option Addr) (n c : Nat) (V : Nat → Nat), v = .slice A n c ∧ n ≤ maxLen ∧ (A = none → n = 0 ∧ c = 0) ∧ Bys W W.heap.size A n V := by
  obtain ⟨a0, len, cap, rfl⟩ := okWide_slice Try.underlying34 hv
  obtain ⟨fuel, hf⟩ := h
  rcases open_ints Try.underlying34 Try.underlying5 cells_u8 hf with ⟨hcs, _⟩ | ⟨a, n, c, zs, hcs, _, hl, hm, hz, _, hcell, hwz⟩
  · simp [Value.cells] at hcs
    obtain ⟨rfl, rfl, rfl⟩ := hcs
    exact ⟨none, 0, 0, fun _ => 0, rfl, Nat.zero_le _, fun _ => ⟨rfl, rfl⟩, fun k hk => absurd hk (by omega)⟩
  · simp [Value.cells] at hcs
    obtain ⟨rfl, rfl, rfl⟩ := hcs
    have hnm : len ≤ zs.length := by rw [hz]; split <;> omega
    refine ⟨some a, len, cap, fun k => (zs.getD k 0).toNat, rfl, Nat.le_trans hl hm, fun e => (by cases e), fun k hk => ?_⟩
    have e0 := hcell k (by omega)
    have hlt := cell_in e0
    rw [add_block] at hlt
    have hmem : zs.getD k 0 ∈ zs := by
      rw [List.getD_eq_getElem?_getD, List.getElem?_eq_getElem (by omega)]
      exact List.getElem_mem _
    obtain ⟨x, hx, hxz⟩ := u8_nat (hwz _ hmem)
    refine ⟨a, rfl, hlt, ?_, ?_⟩
    · show W.cell? (a.add k) = some (.int .u8 (((zs.getD k 0).toNat : Nat) : Int))
      rw [e0, hxz, Int.toNat_natCast]
    · show (zs.getD k 0).toNat < 256
      rw [hxz]
      exact hx
end
end Go.Proofs.Ytoeamldadclodaa

namespace Go.Proofs.Ytoeamldadclodaa
open Go.RowKit

theorem info_u8 : (Try.prog.info? 5).map (fun i => (i.zero, i.size, i.bytes)) = some (some (.int .u8 0), 1, 1) := by kernel_rfl

/-- bytes as cells. -/
def ycells (V : Nat → Nat) (n : Nat) : List Value := (List.range n).map fun (j : Nat) => Value.int .u8 ((V j : Nat) : Int)
theorem ycells_length (V : Nat → Nat) (n : Nat) : (ycells V n).length = n := by unfold ycells; simp
theorem ycells_at (V : Nat → Nat) (n k : Nat) (h : k < n) : (ycells V n)[k]? = some (.int .u8 ((V k : Nat) : Int)) := by
  unfold ycells
  rw [List.getElem?_map, List.getElem?_range h]
  rfl
theorem ycells_snoc (V : Nat → Nat) (n : Nat) : ycells V (n + 1) = ycells V n ++ [.int .u8 ((V n : Nat) : Int)] := by
  unfold ycells
  rw [List.range_succ]
  simp
theorem ycells_one (V : Nat → Nat) (n : Nat) : ∀ v ∈ ycells V n, v.oneCell' = true := by
  intro v hv
  unfold ycells at hv
  obtain ⟨x, _, rfl⟩ := List.mem_map.1 hv
  rfl
/-- one list behind the other. -/
def both (V U : Nat → Nat) (n : Nat) : Nat → Nat := fun j => if j < n then V j else U (j - n)
theorem ycells_both (V U : Nat → Nat) (n m : Nat) : ycells V n ++ ycells U m = ycells (both V U n) (n + m) := by
  apply List.ext_getElem?
  intro k
  by_cases h : k < n
  · rw [List.getElem?_append_left (by rw [ycells_length]; exact h), ycells_at _ _ _ h, ycells_at _ _ _ (by omega)]
    unfold both
    rw [if_pos h]
  · rw [List.getElem?_append_right (by rw [ycells_length]; omega), ycells_length]
    by_cases h2 : k < n + m
    · rw [ycells_at _ _ _ (by omega), ycells_at _ _ _ h2]
      unfold both
      rw [if_neg h]
    · rw [List.getElem?_eq_none (by rw [ycells_length]; omega), List.getElem?_eq_none (by rw [ycells_length]; omega)]

/-- a row of the call's own, as a slice of bytes. -/
theorem bys_of_row {w : World} {base n : Nat} {v : Value} {V : Nat → Nat} (h : w.ownsRow base 5 1 v n (ycells V n)) (hV : ∀ j, j < n → V j < 256) :
    ∃ (A : Option Addr) (c : Nat), v = .slice A n c ∧ (A = none → n = 0 ∧ c = 0) ∧ Bys w w.heap.size A n V := by
  have hc := h
  rcases h.2 with ⟨rfl, rfl⟩ | ⟨g, cap, cur, rfl, hb, hg, rest⟩
  · exact ⟨none, 0, rfl, fun _ => ⟨rfl, rfl⟩, fun k hk => absurd hk (by omega)⟩
  · refine ⟨some ⟨g, 0, none⟩, cap, rfl, fun e => (by cases e), fun k hk => ⟨⟨g, 0, none⟩, rfl, (hc.lt g rfl).2, ?_, hV k hk⟩⟩
    exact hc.cells rfl k _ (ycells_at V n k hk)

/-- append of one byte. -/
theorem step_append_byte {ops : Array Oper} {rest : List Oper} {o : Oper} {a : Act} {Q : Exit → Act → World → Prop} (hgd : o.guard = none) (s x : Operand)
    (ho : o.op = .call { callee := .builtin .append, args := #[s, x], argTypes := #[34, 34] })
    {w : World} {B : Nat} {v : Value} {i : Nat} {xs : List Value} (hs : a.eval s = v) (hown : w.ownsRow B 5 1 v i xs) (y : Int) (hx : a.eval x = .slice (some ⟨w.heap.size, 0, none⟩) 1 1) (hB : B ≤ w.heap.size) (hi : i ≤ 4194304)
    (h : ∀ v' w', Hid (w'.ownsRow B 5 1 v' (i + 1) (xs ++ [.int .u8 y])) → Below B w w' → wpList Try.prog ops Q rest (a.put o.dst v') w') :
    wpList Try.prog ops Q (o :: rest) a (w.alloc (.cells #[.int .u8 y] 5)) := by
  obtain ⟨i0, hi0, hz0, hs0, hb0⟩ := info_parts info_u8
  have hl := lies_new w 5 [.int .u8 y]
  refine wpList_append_own _ hgd s x 34 ho B 5 i0 (.int .u8 0) 1 1 Try.underlying34 hi0 hz0 hs0 hb0 rfl (by decide) v i xs hs (hown.alloc _) ⟨w.heap.size, 0, none⟩ 1 1 [.int .u8 y] hx rfl (fun j u hj => by
      cases j with
      | zero => simp at hj; subst hj; exact hl.cell 0
      | succ j => simp at hj) (fun u hu => by simp at hu; subst hu; rfl) (by unfold maxLen; omega) (by omega) (by rw [size_alloc]; omega) (fun v' w' h2 h3 _ => ?_)
  exact h v' w' h2 (((Below.refl _ _).alloc hB _).grown h3 (by rw [size_alloc]; omega) (fun k hk => (hown.lt k hk).1))

/-- append of all bytes of a slice. -/
theorem step_append_bytes {ops : Array Oper} {rest : List Oper} {o : Oper} {a : Act} {Q : Exit → Act → World → Prop} (hgd : o.guard = none) (s x : Operand)
    (ho : o.op = .call { callee := .builtin .append, args := #[s, x], argTypes := #[34, 34] })
    {w : World} {B : Nat} {v : Value} {i : Nat} {xs : List Value} (hs : a.eval s = v) (hown : w.ownsRow B 5 1 v i xs) {A : Option Addr} {n c : Nat} {V : Nat → Nat} (hx : a.eval x = .slice A n c) (hA : A = none → n = 0 ∧ c = 0) {B' : Nat} (hW : Bys w B' A n V)
    (hB : B ≤ w.heap.size) (hi : i + n ≤ 4194304)
    (h : ∀ v' w', Hid (w'.ownsRow B 5 1 v' (i + n) (xs ++ ycells V n)) → Below B w w' → wpList Try.prog ops Q rest (a.put o.dst v') w') :
    wpList Try.prog ops Q (o :: rest) a w := by
  obtain ⟨i0, hi0, hz0, hs0, hb0⟩ := info_parts info_u8
  rcases A with _ | ad
  · obtain ⟨rfl, rfl⟩ := hA rfl
    refine wpList_append_own_none hgd s x 34 ho B 5 i0 1 Try.underlying34 hi0 _ i xs hs hown hx ?_
    exact h v w (Lib.hid (by rw [show ycells V 0 = [] from rfl, List.append_nil]; exact hown)) (Below.refl _ _)
  · refine wpList_append_own _ hgd s x 34 ho B 5 i0 (.int .u8 0) 1 1 Try.underlying34 hi0 hz0 hs0 hb0 rfl (by decide) v i xs hs hown ad n c (ycells V n) hx
      (by rw [ycells_length]; omega) (fun j u hj => ?_) (ycells_one V n) (by unfold maxLen; omega) (by omega) hB (fun v' w' h2 h3 _ => ?_)
    · have hjn : j < n := by
        have := (List.getElem?_eq_some_iff.1 hj).1
        rw [ycells_length] at this
        exact this
      rw [ycells_at V n j hjn] at hj
      obtain ⟨ad', e, hb, hc, _⟩ := hW j hjn
      cases e
      rw [← hj, ← hc]
    · exact h v' w' h2 ((Below.refl _ _).grown h3 hB (fun k hk => (hown.lt k hk).1))
end Go.Proofs.Ytoeamldadclodaa
