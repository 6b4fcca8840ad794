/- A sparse list, with places or without: contracts of Len, Bound, At, Rank, Has. -/
import Derived.Test.YtmcoehimjfgakaaSpRank
namespace Go.Proofs.Ytmcoehimjfgakaa
open Go.RowKit

/-- a sparse list of the m places l below n, as it lies; its words are hs and ls. -/
def St (w : World) (B g n m : Nat) (hs ls : List Nat) (l : Nat → Nat) : Prop :=
  (m = 0 ∧ Lies w g 51 [.int .i64 (n : Int), .int .i64 0, .pointer none, .pointer none, .pointer none] ∧ B ≤ g) ∨
  (Fit n m hs ls l ∧ ∃ h1 h2 gl gls, Spl w B g h1 h2 gl gls n (Pl.lw n m) m hs ls l)

/-- is x a place? -/
def hasB (l : Nat → Nat) (m : Nat) (x : Int) : Bool := decide (belowN l m x < m) && decide ((l (belowN l m x) : Int) = x)
/-- the place of number i, or -1. -/
def atI (l : Nat → Nat) (m i : Nat) : Int := if i < m then (l i : Int) else -1
theorem belowN_le (l : Nat → Nat) (m : Nat) (x : Int) : belowN l m x ≤ m := Pl.cnt_le _ _
theorem Rise.belowN_at {n m : Nat} {l : Nat → Nat} (h : Pl.Rise n m l) {i : Nat} (hi : i < m) : belowN l m (l i) = i := by
  unfold belowN
  refine Pl.cnt_pre (Nat.le_of_lt hi) (fun j hj => ?_) (fun j h1 h2 => ?_)
  · have := h.lt hj hi
    simp only [decide_eq_true_eq]; omega
  · have := h.le h1 h2
    simp only [decide_eq_false_iff_not]; omega
theorem Rise.hasB_at {n m : Nat} {l : Nat → Nat} (h : Pl.Rise n m l) {i : Nat} (hi : i < m) : hasB l m (l i) = true := by
  unfold hasB
  rw [Rise.belowN_at h hi]
  simp [hi]
theorem hasB_eq (l : Nat → Nat) (m : Nat) (x : Int) : hasB l m x = (decide (0 ≤ x) && (atI l m (belowN l m x) == x)) := by
  unfold hasB atI
  by_cases h : belowN l m x < m
  · rw [if_pos h]
    by_cases e : (l (belowN l m x) : Int) = x
    · have : 0 ≤ x := by omega
      simp [h, e, this]
    · simp [e]
  · rw [if_neg h]
    by_cases e : 0 ≤ x
    · have : ¬ (-1 : Int) = x := by omega
      simp [h, this]
    · simp [h, e]

section
variable {w w' : World} {B g n m : Nat} {hs ls : List Nat} {l : Nat → Nat}
theorem St.keep (h : St w B g n m hs ls l) (hb : Below w.heap.size w w') : St w' B g n m hs ls l := by
  rcases h with ⟨h0, h1, h2⟩ | ⟨hf, h1, h2, gl, gls, h⟩
  · exact .inl ⟨h0, h1.below hb h1.lt, h2⟩
  · exact .inr ⟨hf, h1, h2, gl, gls, h.keep hb⟩
theorem St.old {q : Nat} (h : St w B g n m hs ls l) (hb : w.grownBy w' (some q)) (hq : q < B) : St w' B g n m hs ls l := by
  rcases h with ⟨h0, h1, h2⟩ | ⟨hf, h1, h2, gl, gls, h⟩
  · exact .inl ⟨h0, h1.grown hb (by intro e; injection e; omega), h2⟩
  · exact .inr ⟨hf, h1, h2, gl, gls, h.old hb hq⟩

theorem len_zero (h : Lies w g 51 [.int .i64 (n : Int), .int .i64 0, .pointer none, .pointer none, .pointer none]) : Calls Try.prog 11 #[.pointer (some ⟨g, 0, none⟩)] w fun e w' => e = .returned (.int .i64 0) ∧ w = w' := by
  have hd4 := h.cell 4
  clear h
  go_enter Try.func11, Try.ntmps11
  go_wp2_with fail
  with_reducible refine (len_nil _).mono ?_
  rintro e w' ⟨rfl, rfl⟩
  go_wp2_with fail
  go_ret
  exact ⟨rfl, rfl⟩
theorem st_len (h : St w B g n m hs ls l) : Calls Try.prog 11 #[.pointer (some ⟨g, 0, none⟩)] w fun e w' => e = .returned (.int .i64 (m : Int)) ∧ w = w' := by
  rcases h with ⟨rfl, h, _⟩ | ⟨_, _, _, _, _, h⟩
  · exact len_zero h
  · exact slen_any h
theorem st_bound (h : St w B g n m hs ls l) : Calls Try.prog 12 #[.pointer (some ⟨g, 0, none⟩)] w fun e w' => e = .returned (.int .i64 (n : Int)) ∧ w = w' := by
  rcases h with ⟨rfl, h, _⟩ | ⟨_, _, _, _, _, h⟩
  · have hd0 := h.cell 0
    clear h
    go_enter Try.func12, Try.ntmps12
    go_wp2
    go_ret
    exact ⟨rfl, rfl⟩
  · exact sbound_any h
theorem st_at (h : St w B g n m hs ls l) (i : Nat) (hi : i < m) : Calls Try.prog 16 #[.pointer (some ⟨g, 0, none⟩), .int .i64 (i : Int)] w fun e w' => e = .returned (.int .i64 ((l i : Nat) : Int)) ∧ Below w.heap.size w w' := by
  rcases h with ⟨rfl, h, _⟩ | ⟨_, _, _, _, _, h⟩
  · omega
  · exact sat_in h i hi
theorem st_at_out (h : St w B g n m hs ls l) (i : Int) (hi : i < 0 ∨ (m : Int) ≤ i) : Calls Try.prog 16 #[.pointer (some ⟨g, 0, none⟩), .int .i64 i] w fun e w' => e = .returned (.int .i64 (-1)) ∧ w = w' := by
  rcases h with ⟨rfl, h, _⟩ | ⟨_, _, _, _, _, h⟩
  · by_cases h0 : i < 0
    · go_enter Try.func16, Try.ntmps16
      go_wp2_with fail
      go_ret
      exact ⟨rfl, rfl⟩
    · go_enter Try.func16, Try.ntmps16
      go_wp2_with fail
      with_reducible refine (len_zero h).mono ?_
      rintro e w' ⟨rfl, rfl⟩
      go_wp2_with fail
      go_ret
      exact ⟨rfl, rfl⟩
  · exact sat_out h i hi
theorem at_none (i : Int) (w : World) : Calls Try.prog 16 #[.pointer none, .int .i64 i] w fun e w' => e = .returned (.int .i64 (-1)) ∧ w = w' := by
  by_cases h0 : i < 0
  · go_enter Try.func16, Try.ntmps16
    go_wp2_with fail
    go_ret
    exact ⟨rfl, rfl⟩
  · go_enter Try.func16, Try.ntmps16
    go_wp2_with fail
    with_reducible refine (slen_nil _).mono ?_
    rintro e w' ⟨rfl, rfl⟩
    go_wp2_with fail
    go_ret
    exact ⟨rfl, rfl⟩
/-- At, of a number from 0 on. -/
theorem st_atI (h : St w B g n m hs ls l) (i : Nat) : Calls Try.prog 16 #[.pointer (some ⟨g, 0, none⟩), .int .i64 (i : Int)] w fun e w' => e = .returned (.int .i64 (atI l m i)) ∧ Below w.heap.size w w' := by
  unfold atI
  by_cases hi : i < m
  · rw [if_pos hi]; exact st_at h i hi
  · rw [if_neg hi]
    exact (st_at_out h (i : Int) (by omega)).mono fun _ _ ⟨he, hw⟩ => ⟨he, by rw [← hw]; exact Below.refl _ _⟩
theorem st_rank (h : St w B g n m hs ls l) (x : Int) : Calls Try.prog 13 #[.pointer (some ⟨g, 0, none⟩), .int .i64 x] w fun e w' => e = .returned (.int .i64 ((belowN l m x : Nat) : Int)) ∧ Below w.heap.size w w' := by
  rcases h with ⟨rfl, h, _⟩ | ⟨_, _, _, _, _, h⟩
  · have e : belowN l 0 x = 0 := rfl
    rw [e]
    by_cases h0 : x ≤ 0
    · exact srank_low _ x h0 w
    · have HL := Lib.hid (len_zero (h.alloc (.cells #[.pointer (some ⟨g, 0, none⟩)] 24)))
      clear h e
      go_enter Try.func13, Try.ntmps13
      go_wp2_with fail
      with_reducible refine HL.out.mono ?_
      rintro e w' ⟨rfl, rfl⟩
      go_wp2_with fail
      go_ret
      exact ⟨rfl, below_box w _⟩
  · exact srank_any h x
set_option maxHeartbeats 400000 in
theorem st_has (h : St w B g n m hs ls l) (x : Int) : Calls Try.prog 15 #[.pointer (some ⟨g, 0, none⟩), .int .i64 x] w fun e w' => e = .returned (.bool (hasB l m x)) ∧ Below w.heap.size w w' := by
  have HE := Lib.hid (hasB_eq l m x)
  have HR := Lib.hid (st_rank h x)
  have HA : ∀ W, Below w.heap.size w W → Hid (Calls Try.prog 16 #[.pointer (some ⟨g, 0, none⟩), .int .i64 ((belowN l m x : Nat) : Int)] W fun e w' => e = .returned (.int .i64 (atI l m (belowN l m x))) ∧ Below W.heap.size W w') := fun W hW => Lib.hid (st_atI (h.keep hW) _)
  clear h
  by_cases h0 : 0 ≤ x
  · have HE2 : Hid (hasB l m x = (atI l m (belowN l m x) == x)) := Lib.hid (by rw [HE.out]; simp [h0])
    generalize atI l m (belowN l m x) = a at HA HE2
    generalize belowN l m x = r at HR HA
    clear HE
    go_enter Try.func15, Try.ntmps15
    go_wp2_with fail
    with_reducible refine HR.out.mono ?_
    rintro e w1 ⟨rfl, hb1⟩
    go_wp2_with fail
    with_reducible refine (HA _ hb1).out.mono ?_
    rintro e w2 ⟨rfl, hb2⟩
    go_wp2_with fail
    go_ret
    rw [HE2.out]
    exact ⟨rfl, hb1.trans (hb2.mono hb1.size)⟩
  · have HE2 : Hid (hasB l m x = false) := Lib.hid (by rw [HE.out]; simp [h0])
    go_enter Try.func15, Try.ntmps15
    go_wp2_with fail
    go_ret
    rw [HE2.out]
    exact ⟨rfl, Below.refl _ _⟩
set_option maxHeartbeats 400000 in
theorem has_none (x : Int) (w : World) : Calls Try.prog 15 #[.pointer none, .int .i64 x] w fun e w' => e = .returned (.bool false) ∧ Below w.heap.size w w' := by
  by_cases h0 : 0 ≤ x
  · have t : ((-1 : Int) == x) = false := by rw [beq_eq_false_iff_ne]; omega
    go_enter Try.func15, Try.ntmps15
    go_wp2_with fail
    with_reducible refine (srank_nil _ _).mono ?_
    rintro e w1 ⟨rfl, hb1⟩
    go_wp2_with fail
    with_reducible refine (at_none _ _).mono ?_
    rintro e w' ⟨rfl, rfl⟩
    go_wp2_with fail
    go_ret
    exact ⟨rfl, hb1⟩
  · go_enter Try.func15, Try.ntmps15
    go_wp2_with fail
    go_ret
    exact ⟨rfl, Below.refl _ _⟩
end
end Go.Proofs.Ytmcoehimjfgakaa
