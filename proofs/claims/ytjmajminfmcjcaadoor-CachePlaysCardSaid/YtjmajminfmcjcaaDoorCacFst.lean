/- The opening of layer 7's laws: it is true, and leaves what was there as it was. -/
import Derived.Test.YtjmajminfmcjcaaDoorCacAt
namespace Go.Proofs.YtjmajminfmcjcaaDoor
open Go.RowKit

theorem Upto.calm {c : CS} {m : Nat} (h : Upto c m) (hm : m ≤ 1000) (hn : c.n ≤ 5000) : Calm c :=
  ⟨fun i f hf => by have := h.held f (List.mem_of_getElem? hf); omega, by have := h.hits; omega, by have := h.misses; omega, by omega⟩

section
variable {fp : Nat → Prop} {w w' : World} {v : Value} {c : CS} {L : List Sec}
theorem Only.below (h : Only fp w w') {lo : Nat} (hlo : lo ≤ w.heap.size) (hfp : ∀ k, fp k → lo ≤ k) : Below lo w w' := Off.below h hlo fun k hk e => by have := hfp k e; omega
/-- what Hold leaves, seen from below. -/
def HoldLow (lo : Nat) (fp : Nat → Prop) (w : World) (v : Value) (c : CS) (L : List Sec) (x : Int) (e : Ending) (w' : World) : Prop :=
  ∃ (fp' : Nat → Prop) (u : Value), e = .returned (.tuple #[u, .bool (holdR c x).2.1, .int .i64 ((holdR c x).2.2 : Int)]) ∧ CacAt fp' w' v (holdR c x).1 L ∧ (∀ k, fp' k → lo ≤ k) ∧ (∀ k, fp' k → fp k ∨ w.heap.size ≤ k) ∧ Only fp w w' ∧ Below lo w w' ∧
    ((holdR c x).2.2 = 0 → ∃ gb cap, u = .slice (some ⟨gb, 0, none⟩) 256 cap ∧ ¬ fp' gb ∧ w.heap.size ≤ gb ∧ w'.ownsRow w.heap.size 5 1 (.slice (some ⟨gb, 0, none⟩) 256 cap) 256 (ycells (fun k => imageOf L (264 * x.toNat + k)) 256)) ∧ ((holdR c x).2.2 ≠ 0 → u = .slice none 0 0)
theorem lowHold (h : CacAt fp w v c L) (hq : Calm c) {lo : Nat} (hlo : lo ≤ w.heap.size) (hfp : ∀ k, fp k → lo ≤ k) (x : Int) : Calls Tryd.prog 10 #[v, .int .i64 x] w (HoldLow lo fp w v c L x) := by
  refine (atHold h hq x).mono ?_
  rintro e w' ⟨fp', u, B, rfl, i2, i3, i4, i5, i6, i7, i8⟩
  refine ⟨fp', u, rfl, i2, fun k hk => ?_, i3, i4, i4.below hlo hfp, fun h0 => ?_, i8⟩
  · rcases i3 k hk with h | h
    · exact hfp k h
    · omega
  · have hr := i7 h0
    obtain ⟨gb, cap, rfl⟩ := Joins.ownsRow_form hr (by decide)
    have hb := hr.lt gb rfl
    exact ⟨gb, cap, rfl, fun hk => by have := i6 gb hk; omega, by omega, ownsRow_lower hr i5⟩
end

/-! The states of the example. -/
def f1 : CS := ⟨4, [⟨1, 1, true⟩, ⟨-1, 0, false⟩], 0, 0, 1⟩
def f2 : CS := ⟨4, [⟨1, 1, true⟩, ⟨2, 1, true⟩], 0, 0, 2⟩
def f4 : CS := ⟨4, [⟨1, 0, true⟩, ⟨2, 1, true⟩], 0, 0, 2⟩
def f5 : CS := ⟨4, [⟨3, 1, true⟩, ⟨2, 1, true⟩], 1, 0, 3⟩
def f6 : CS := ⟨4, [⟨3, 1, true⟩, ⟨2, 2, true⟩], 1, 1, 3⟩
theorem ex1 : holdR (newC 4 2) 1 = (f1, false, 0) := by rfl
theorem ex2 : holdR f1 2 = (f2, false, 0) := by rfl
theorem ex3 : holdR f2 3 = (f2, false, 70) := by rfl
theorem ex4 : dropR f2 1 = (f4, true) := by rfl
theorem ex5 : holdR f4 3 = (f5, false, 0) := by rfl
theorem ex6 : holdR f5 2 = (f6, true, 0) := by rfl
theorem ex7 : hasR f6 1 = false := by decide +kernel
theorem ex8 : heldN f6.F = 2 ∧ pinnedN f6.F = 2 := by decide +kernel
theorem exCalm (c : CS) (h : c = newC 4 2 ∨ c = f1 ∨ c = f2 ∨ c = f4 ∨ c = f5) : Calm c := by
  have all : ∀ c ∈ [newC 4 2, f1, f2, f4, f5], (∀ f ∈ c.F, f.held ≤ 5) ∧ c.hits ≤ 5 ∧ c.misses ≤ 5 ∧ c.n ≤ 5 := by decide +kernel
  have h1 := all c (by simp; exact h)
  exact ⟨fun i f hf => by have := h1.1 f (List.mem_of_getElem? hf); omega, by omega, by omega, by omega⟩
set_option maxRecDepth 100000 in
set_option maxHeartbeats 3200000 in
theorem first_any (w : World) (ht : Tabs w) : Calls Tryd.prog 7 #[] w fun e w' => e = .returned (.bool true) ∧ Below w.heap.size w w' := by
  have HM := Lib.hid (made_any 3 (by decide) 2 w ht)
  clear ht
  go_enter Tryd.func7, Tryd.ntmps7
  go_wp2_with fail
  refine HM.out.mono ?_
  rintro e w1 ⟨hm, _, hb1⟩
  obtain ⟨v, fp0, L, rfl, hC0, hl0, hV⟩ := hm (by decide)
  obtain ⟨a, rfl⟩ := hC0.ptr
  have H1 := Lib.hid (lowHold hC0 (exCalm _ (.inl rfl)) hb1.size hl0 1)
  have HV := Lib.hid hV
  clear hm hC0 hV HM
  go_wp2_with fail
  refine H1.out.mono ?_
  rintro e w2 ⟨fp1, u1, rfl, hC1, hl1, _, _, hb2, _, _⟩
  rw [show (3 + 1 : Nat) = 4 from rfl, show (2 : Int).toNat = 2 from rfl, ex1] at hC1 ⊢
  have hB2 := hb1.trans hb2
  have H2 := Lib.hid (lowHold hC1 (exCalm _ (.inr (.inl rfl))) hB2.size hl1 2)
  clear hC1 H1
  go_wp2_with fail
  refine H2.out.mono ?_
  rintro e w3 ⟨fp2, u2, rfl, hC2, hl2, _, _, hb3, _, _⟩
  rw [ex2] at hC2 ⊢
  have hB3 := hB2.trans hb3
  have H3 := Lib.hid (lowHold hC2 (exCalm _ (.inr (.inr (.inl rfl)))) hB3.size hl2 3)
  clear hC2 H2
  go_wp2_with fail
  refine H3.out.mono ?_
  rintro e w4 ⟨fp3, u3, rfl, hC3, hl3, _, _, hb4, _, _⟩
  rw [ex3] at hC3 ⊢
  have hB4 := hB3.trans hb4
  have H4 := Lib.hid (atDrop hC3 (exCalm _ (.inr (.inr (.inl rfl)))) 1)
  rw [ex4] at H4
  clear hC3 H3
  go_wp2_with fail
  refine H4.out.mono ?_
  rintro e w5 ⟨rfl, hC4, ho5⟩
  have hB5 := hB4.trans (ho5.below hB4.size hl3)
  have H5 := Lib.hid (lowHold hC4 (exCalm _ (.inr (.inr (.inr (.inl rfl))))) hB5.size hl3 3)
  clear hC4 H4
  go_wp2_with fail
  refine H5.out.mono ?_
  rintro e w6 ⟨fp5, u5, rfl, hC5, hl5, _, _, hb6, hrow, _⟩
  rw [ex5] at hC5 hrow ⊢
  obtain ⟨gb, cap, rfl, hgb, _, hown⟩ := hrow rfl
  have hB6 := hB5.trans hb6
  have H6 := Lib.hid (lowHold hC5 (exCalm _ (.inr (.inr (.inr (.inr rfl))))) hB6.size hl5 2)
  have hcell : w6.cell? ⟨gb, 0, none⟩ = some (.int .u8 3) := by
    have h := hown.cells rfl 0 _ (ycells_at _ 256 0 (by decide))
    rw [Addr.add_mid, show 264 * (3 : Int).toNat + 0 = 264 * 3 from rfl, HV.out _ (by decide), madeS_byte (by decide) (by decide)] at h
    exact h
  have HOwn := Lib.hid hown
  clear hC5 H5 hrow hown
  go_wp2_with fail
  refine H6.out.mono ?_
  rintro e w7 ⟨fp6, u6, rfl, hC6, hl6, _, ho7, hb7, _, _⟩
  rw [ex6] at hC6 ⊢
  have hB7 := hB6.trans hb7
  have hcell7 : w7.cell? ⟨gb, 0, none⟩ = some (.int .u8 3) := Off.cell ho7 hcell hgb
  have H7 := Lib.hid (atHas hC6 1)
  rw [ex7] at H7
  have HC6 := Lib.hid hC6
  clear hC6 H6 hcell
  go_wp2_with fail
  refine H7.out.mono ?_
  rintro e w8 ⟨rfl, hb8⟩
  have hB8 := hB7.trans (hb8.mono hB7.size)
  have H8 := Lib.hid (atStats (HC6.out.keep hb8))
  unfold statsV at H8
  rw [ex8.1, ex8.2] at H8
  clear H7
  go_wp2_with fail
  refine H8.out.mono ?_
  rintro e w9 ⟨rfl, hb9⟩
  have hB9 := hB8.trans (hb9.mono hB8.size)
  go_wp2_with fail
  go_ret
  exact ⟨rfl, hB9⟩
end Go.Proofs.YtjmajminfmcjcaaDoor
