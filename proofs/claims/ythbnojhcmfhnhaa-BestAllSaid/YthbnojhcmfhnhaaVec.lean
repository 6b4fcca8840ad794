/- A list of bits as it lies in memory; the contracts of Len, Ones, At and within of package rank. -/
import Derived.Test.YthbnojhcmfhnhaaFull
import Derived.Test.YthbnojhcmfhnhaaCntMath
namespace Go.Proofs.Ythbnojhcmfhnhaa
open Go.RowKit

/-- what the bits of a list are, its words being these. -/
structure Bits (ws : List Nat) (n : Nat) (f : Nat → Bool) : Prop where
  few : n ≤ 4194304
  len : ws.length = (n + 63) / 64
  small : Pl.Small ws
  same : ∀ i, i < n → Pl.bitAt ws i = f i
  behind : ∀ i, n ≤ i → Pl.bitAt ws i = false

/-- a list of bits as it lies: its struct in block g, its words in block gw; its counts are the value av; all of it in blocks from B on. -/
structure Vc (w : World) (B g gw : Nat) (av : Value) (n : Nat) (ws : List Nat) (f : Nat → Bool) : Prop where
  head : Lies w g 83 [.int .i64 (n : Int), .int .i64 ((Pl.cnt f n : Nat) : Int), .slice (some ⟨gw, 0, none⟩) ws.length ws.length, av]
  body : Lies w gw 55 (wcells ws)
  row : ∀ k, 8 * k < ws.length → ∃ ga c : Nat, av = .slice (some ⟨ga, 0, none⟩) ((ws.length + 7) / 8) c ∧ B ≤ ga ∧ ga < w.heap.size ∧ w.cell? ⟨ga, k, none⟩ = some (.int .i64 ((Pl.cnt f (512 * k) : Nat) : Int))
  bits : Bits ws n f
  lo : B ≤ g ∧ B ≤ gw

section
variable {w w' : World} {B g gw n : Nat} {av : Value} {ws : List Nat} {f : Nat → Bool}
theorem Vc.keep (h : Vc w B g gw av n ws f) (hb : Below w.heap.size w w') : Vc w' B g gw av n ws f :=
  ⟨h.head.below hb h.head.lt, h.body.below hb h.body.lt, fun k hk => by
    obtain ⟨ga, c, e, h1, h2, h3⟩ := h.row k hk
    exact ⟨ga, c, e, h1, Nat.lt_of_lt_of_le h2 hb.size, (hb.cell (p := ⟨ga, k, none⟩) h2).trans h3⟩, h.bits, h.lo⟩
theorem cell_of_heap {w w' : World} {g k : Nat} (e : w'.heap[g]? = w.heap[g]?) : w'.cell? ⟨g, k, none⟩ = w.cell? ⟨g, k, none⟩ := by
  simp only [World.cell?, e]
theorem Vc.keepB (h : Vc w B g gw av n ws f) (hs : w.heap.size ≤ w'.heap.size) (hb : ∀ k, B ≤ k → k < w.heap.size → w'.heap[k]? = w.heap[k]?) : Vc w' B g gw av n ws f :=
  ⟨h.head.same (hb g h.lo.1 h.head.lt), h.body.same (hb gw h.lo.2 h.body.lt), fun k hk => by
    obtain ⟨ga, c, e, h1, h2, h3⟩ := h.row k hk
    exact ⟨ga, c, e, h1, Nat.lt_of_lt_of_le h2 hs, (cell_of_heap (hb ga h1 h2)).trans h3⟩, h.bits, h.lo⟩
/-- a store into a block from before B. -/
theorem Vc.old {q : Nat} (h : Vc w B g gw av n ws f) (hb : w.grownBy w' (some q)) (hq : q < B) : Vc w' B g gw av n ws f :=
  ⟨h.head.grown hb (by have := h.lo.1; intro e; injection e; omega), h.body.grown hb (by have := h.lo.2; intro e; injection e; omega), fun k hk => by
    obtain ⟨ga, c, e, h1, h2, h3⟩ := h.row k hk
    exact ⟨ga, c, e, h1, Nat.lt_of_lt_of_le h2 hb.size, (cell_of_heap (hb.block ga h2 (by intro e; injection e; omega))).trans h3⟩, h.bits, h.lo⟩
theorem Vc.drewN (h : Vc w B g gw av n ws f) (k : Nat) : Vc (w.drewN k) B g gw av n ws f := ⟨h.head, h.body, h.row, h.bits, h.lo⟩
theorem Vc.c0 (h : Vc w B g gw av n ws f) : w.cell? ⟨g, 0, none⟩ = some (.int .i64 (n : Int)) := h.head.cell 0
theorem Vc.c1 (h : Vc w B g gw av n ws f) : w.cell? ⟨g, 1, none⟩ = some (.int .i64 ((Pl.cnt f n : Nat) : Int)) := h.head.cell 1
theorem Vc.c2 (h : Vc w B g gw av n ws f) : w.cell? ⟨g, 2, none⟩ = some (.slice (some ⟨gw, 0, none⟩) ws.length ws.length) := h.head.cell 2
theorem Vc.c3 (h : Vc w B g gw av n ws f) : w.cell? ⟨g, 3, none⟩ = some av := h.head.cell 3
theorem Vc.word (h : Vc w B g gw av n ws f) (k : Nat) (hk : k < ws.length) : w.cell? ⟨gw, k, none⟩ = some (.int .u64 ((ws.getD k 0 : Nat) : Int)) := by
  rw [h.body.cell k]; exact wcells_at ws k hk

theorem vlen_any (h : Vc w B g gw av n ws f) : Calls Try.prog 56 #[.pointer (some ⟨g, 0, none⟩)] w fun e w' => e = .returned (.int .i64 (n : Int)) ∧ w = w' := by
  have h1 := h.c0
  go_enter Try.func56, Try.ntmps56
  go_wp2
  go_ret
  exact ⟨rfl, rfl⟩
theorem vlen_nil (w : World) : Calls Try.prog 56 #[.pointer none] w fun e w' => e = .returned (.int .i64 0) ∧ w = w' := by
  go_enter Try.func56, Try.ntmps56
  go_wp2
  go_ret
  exact ⟨rfl, rfl⟩
theorem vones_any (h : Vc w B g gw av n ws f) : Calls Try.prog 57 #[.pointer (some ⟨g, 0, none⟩)] w fun e w' => e = .returned (.int .i64 ((Pl.cnt f n : Nat) : Int)) ∧ w = w' := by
  have h1 := h.c1
  go_enter Try.func57, Try.ntmps57
  go_wp2
  go_ret
  exact ⟨rfl, rfl⟩
theorem vones_nil (w : World) : Calls Try.prog 57 #[.pointer none] w fun e w' => e = .returned (.int .i64 0) ∧ w = w' := by
  go_enter Try.func57, Try.ntmps57
  go_wp2
  go_ret
  exact ⟨rfl, rfl⟩

theorem within_any (h : Vc w B g gw av n ws f) (i : Int) : Calls Try.prog 55 #[.pointer (some ⟨g, 0, none⟩), .int .i64 i] w fun e w' => e = .returned (.int .i64 ((Pl.clamp n i : Nat) : Int)) ∧ w = w' := by
  have hc := Lib.hid (show Pl.clamp n i = (max 0 (min i (n : Int))).toNat from rfl)
  by_cases h1 : (n : Int) < i
  · by_cases h2 : 0 < n
    all_goals
      go_enter Try.func55, Try.ntmps55
      go_wp2_with (go_at_call 56; refine (vlen_any h).mono ?_; rintro e w' ⟨rfl, rfl⟩)
      go_ret
      exact ⟨ret_i64 (by rw [hc.out]; omega), rfl⟩
  · by_cases h2 : 0 < i
    all_goals
      go_enter Try.func55, Try.ntmps55
      go_wp2_with (go_at_call 56; refine (vlen_any h).mono ?_; rintro e w' ⟨rfl, rfl⟩)
      go_ret
      exact ⟨ret_i64 (by rw [hc.out]; omega), rfl⟩
theorem within_nil (i : Int) (w : World) : Calls Try.prog 55 #[.pointer none, .int .i64 i] w fun e w' => e = .returned (.int .i64 0) ∧ w = w' := by
  by_cases h1 : 0 < i
  all_goals
    go_enter Try.func55, Try.ntmps55
    go_wp2_with (go_at_call 56; refine (vlen_nil _).mono ?_; rintro e w' ⟨rfl, rfl⟩)
    all_goals
      go_ret
      exact ⟨ret_i64 (by omega), rfl⟩

theorem bit_test (x s : Nat) (hx : x < 2 ^ 64) : (bits .and .u64 ((x : Int) / 2 ^ s) 1 == 1) = x.testBit s := by
  have h1 : (1 : Int) = ((1 : Nat) : Int) := rfl
  rw [shr_u, h1, and_u (Pl.div_lt_64 hx) (by decide), Nat.and_one_is_mod, ← Nat.shiftRight_eq_div_pow]
  have e := Nat.testBit_zero (x >>> s)
  rw [Nat.testBit_shiftRight, Nat.add_zero] at e
  rw [e]
  rcases Nat.mod_two_eq_zero_or_one (x >>> s) with h | h <;> simp [h]

/-- the answer of At. -/
def atB (f : Nat → Bool) (n : Nat) (i : Int) : Bool := decide (0 ≤ i ∧ i < (n : Int)) && f i.toNat

end
end Go.Proofs.Ythbnojhcmfhnhaa
