/- What layer 16's laws ask of package tally, as one word (TalI), over any 'At' (a tally lies at a pointer); the laws' opening. -/
import Derived.Test.YtoeamldadclodaaTalRef
import Derived.Test.YtoeamldadclodaaSufI
namespace Go.Proofs.Ytoeamldadclodaa
open Go.RowKit

/-- the doubles of a place; 0, if there is none. -/
def dblAt (D L : Nat → Int) (n : Nat) (i : Int) : Int := if 0 ≤ i ∧ i < (n : Int) then ((dblT D L n i.toNat : Nat) : Int) else 0
theorem dblAt_in {D L : Nat → Int} {n i : Nat} (h : i < n) : dblAt D L n (i : Int) = ((dblT D L n i : Nat) : Int) := by
  unfold dblAt
  rw [if_pos (by omega), Int.toNat_natCast]
theorem dblAt_out {D L : Nat → Int} {n : Nat} {i : Int} (h : ¬ (0 ≤ i ∧ i < (n : Int))) : dblAt D L n i = 0 := if_neg h
theorem dblAt_room (D L : Nat → Int) (n : Nat) (i : Int) : 0 ≤ dblAt D L n i ∧ dblAt D L n i ≤ (n : Int) := by
  unfold dblAt
  split
  · have := dblT_le D L n i.toNat
    omega
  · omega
theorem itsR_lit_ {w : World} (xs : List Int) (hm : xs.length ≤ maxLen) (hx : ∀ x ∈ xs, -9223372036854775808 ≤ x ∧ x ≤ 9223372036854775807) : ItsR (w.alloc (.cells (xs.map fun x => Value.int .i64 x).toArray 3)) (some ⟨w.heap.size, 0, none⟩) xs.length xs.length (litI xs) := ⟨fun e => (by cases e), Nat.le_refl _, hm, its_lit w xs hx⟩
theorem below_up {lo : Nat} {w a b : World} (hlo : w.heap.size = lo) (h : Below lo w a) (hb : Below a.heap.size a b) : Below lo w b := h.trans (hb.mono (by have := h.size; omega))
/-- what package tally answers. At B w v n D L: the tally of the first n numbers of D and L lies at v, all of it in blocks from B on. -/
structure TalI (At : Nat → World → Value → Nat → (Nat → Int) → (Nat → Int) → Prop) : Prop where
  keep_ : ∀ {B : Nat} {w w' : World} {v : Value} {n : Nat} {D L : Nat → Int}, At B w v n D L → w.heap.size ≤ w'.heap.size → (∀ k, B ≤ k → k < w.heap.size → w'.heap[k]? = w.heap[k]?) → At B w' v n D L
  ptr : ∀ {B : Nat} {w : World} {v : Value} {n : Nat} {D L : Nat → Int}, At B w v n D L → ∃ a, v = .pointer (some a)
  new : ∀ (A : Option Addr) (n c : Nat) (D : Nat → Int) (A' : Option Addr) (n' c' : Nat) (L : Nat → Int) (w : World), n ≤ 2097152 → n' ≤ 2097152 → ItsR w A n c D → ItsR w A' n' c' L → Calls Try.prog 8 #[.slice A n c, .slice A' n' c'] w fun e w' =>
    (n = n' → ∃ v, e = .returned (.tuple #[v, .int .i64 0]) ∧ At w.heap.size w' v n D L) ∧ (n ≠ n' → e = .returned (.tuple #[.pointer none, .int .i64 2])) ∧ Below w.heap.size w w'
  doubles : ∀ (B : Nat) (v : Value) (n : Nat) (D L : Nat → Int) (i : Int) (w : World), (Lit.int .i64 i).wf = true → At B w v n D L → Calls Try.prog 10 #[v, .int .i64 i] w fun e w' => e = .returned (.int .i64 (dblAt D L n i)) ∧ Below w.heap.size w w'
  docs : ∀ (B : Nat) (v : Value) (n : Nat) (D L : Nat → Int) (a b : Int) (w : World), (Lit.int .i64 a).wf = true → (Lit.int .i64 b).wf = true → At B w v n D L → Calls Try.prog 11 #[v, .int .i64 a, .int .i64 b] w fun e w' => e = .returned (.int .i64 (docsI D L n a b)) ∧ Below w.heap.size w w'
  nilDoubles : ∀ (i : Int) (w : World), Calls Try.prog 10 #[.pointer none, .int .i64 i] w fun e w' => e = .returned (.int .i64 0) ∧ Below w.heap.size w w'
  nilDocs : ∀ (a b : Int) (w : World), Calls Try.prog 11 #[.pointer none, .int .i64 a, .int .i64 b] w fun e w' => e = .returned (.int .i64 0) ∧ Below w.heap.size w w'
section
variable {At : Nat → World → Value → Nat → (Nat → Int) → (Nat → Int) → Prop}
theorem TalI.keep (I : TalI At) {B : Nat} {w w' : World} {v : Value} {n : Nat} {D L : Nat → Int} (h : At B w v n D L) (hb : Below w.heap.size w w') : At B w' v n D L := I.keep_ h hb.size fun k _ hk => hb.block k hk
/-- the chapter's example. -/
def txD : Nat → Int := litI [0, 1, 0, 0, 1]
def txL : Nat → Int := litI [0, 0, 0, 2, 1]
set_option maxRecDepth 100000 in
set_option maxHeartbeats 1600000 in
theorem tlfirst_any (I : TalI At) (w : World) : Calls Try.prog 7 #[] w fun e w' => e = .returned (.bool true) ∧ Below w.heap.size w w' := by
  have HI := Lib.hid I
  have i1 : ItsR (w.alloc (.cells #[.int .i64 0, .int .i64 1, .int .i64 0, .int .i64 0, .int .i64 1] 3)) (some ⟨w.heap.size, 0, none⟩) 5 5 txD := itsR_lit_ [0, 1, 0, 0, 1] (by unfold maxLen; decide) (by decide)
  have hb1 : Below w.heap.size w (w.alloc (.cells #[.int .i64 0, .int .i64 1, .int .i64 0, .int .i64 0, .int .i64 1] 3)) := (Below.refl _ _).alloc (Nat.le_refl _) _
  obtain ⟨wa, hwa⟩ : ∃ wa, w.alloc (.cells #[.int .i64 0, .int .i64 1, .int .i64 0, .int .i64 0, .int .i64 1] 3) = wa := ⟨_, rfl⟩
  have za : w.heap.size + 1 = wa.heap.size := by rw [← hwa, size_alloc]
  rw [hwa] at i1 hb1
  have i2 : ItsR (wa.alloc (.cells #[.int .i64 0, .int .i64 0, .int .i64 0, .int .i64 2, .int .i64 1] 3)) (some ⟨wa.heap.size, 0, none⟩) 5 5 txL := itsR_lit_ [0, 0, 0, 2, 1] (by unfold maxLen; decide) (by decide)
  have hb2 : Below wa.heap.size wa (wa.alloc (.cells #[.int .i64 0, .int .i64 0, .int .i64 0, .int .i64 2, .int .i64 1] 3)) := (Below.refl _ _).alloc (Nat.le_refl _) _
  have hB2 := hb1.trans (hb2.mono hb1.size)
  have HN := HI.out.new _ 5 5 txD _ 5 5 txL _ (by decide) (by decide) (i1.below hb2) i2
  have HN := Lib.hid HN
  have HB2 := Lib.hid hB2
  clear I i1 i2 hb1 hb2 hB2
  go_enter Try.func7, Try.ntmps7
  go_wp2_with fail
  refine HN.out.mono ?_
  rintro e w1 ⟨h1, _, hb3⟩
  obtain ⟨v, rfl, hAt⟩ := h1 (by trivial)
  obtain ⟨pa, rfl⟩ := HI.out.ptr hAt
  have HB1 := Lib.hid (HB2.out.trans (hb3.mono HB2.out.size))
  have i3 : ItsR (w1.alloc (.cells #[.int .i64 0] 3)) (some ⟨w1.heap.size, 0, none⟩) 1 1 (litI [0]) := itsR_lit_ [0] (by unfold maxLen; decide) (by decide)
  have hb4 : Below w1.heap.size w1 (w1.alloc (.cells #[.int .i64 0] 3)) := (Below.refl _ _).alloc (Nat.le_refl _) _
  have HA2 := Lib.hid (HI.out.keep hAt hb4)
  have HW := Lib.hid (HI.out.new _ 1 1 (litI [0]) none 0 0 (fun _ => 0) _ (by decide) (by decide) i3 ⟨fun _ => ⟨rfl, rfl⟩, Nat.le_refl _, Nat.zero_le _, fun k hk => absurd hk (Nat.not_lt_zero k)⟩)
  have HB3 := Lib.hid (HB1.out.trans (hb4.mono HB1.out.size))
  clear h1 hAt hb3 hb4 i3 HN HB2 HB1 hwa za
  go_wp2_with fail
  refine HW.out.mono ?_
  rintro e w2 ⟨_, h2, hb5⟩
  have he := h2 (by decide)
  subst he
  have HB4 := Lib.hid (HB3.out.trans (hb5.mono HB3.out.size))
  have HA3 := Lib.hid (HI.out.keep HA2.out hb5)
  have H1 := HI.out.docs _ _ _ _ _ 2 5 w2 (by decide) (by decide) HA3.out
  rw [show docsI txD txL 5 2 5 = 2 by decide] at H1
  have H1 := Lib.hid H1
  clear h2 hb5 HW HA2 HB3
  go_wp2_with fail
  refine H1.out.mono ?_
  rintro e w3 ⟨rfl, hb5⟩
  have HB5 := Lib.hid (HB4.out.trans (hb5.mono HB4.out.size))
  have HA4 := Lib.hid (HI.out.keep HA3.out hb5)
  have H2 := HI.out.doubles _ _ _ _ _ 3 w3 (by decide) HA4.out
  rw [show dblAt txD txL 5 3 = 1 by decide] at H2
  have H2 := Lib.hid H2
  clear hb5 H1 HA3 HB4
  go_wp2_with fail
  refine H2.out.mono ?_
  rintro e w4 ⟨rfl, hb5⟩
  have HB6 := Lib.hid (HB5.out.trans (hb5.mono HB5.out.size))
  have HA5 := Lib.hid (HI.out.keep HA4.out hb5)
  have H3 := HI.out.doubles _ _ _ _ _ 0 w4 (by decide) HA5.out
  rw [show dblAt txD txL 5 0 = 0 by decide] at H3
  have H3 := Lib.hid H3
  clear hb5 H2 HA4 HB5
  go_wp2_with fail
  refine H3.out.mono ?_
  rintro e w5 ⟨rfl, hb5⟩
  have HB7 := Lib.hid (HB6.out.trans (hb5.mono HB6.out.size))
  clear hb5 H3 HA5 HB6
  go_wp2_with fail
  go_ret
  exact ⟨rfl, HB7.out⟩
end
end Go.Proofs.Ytoeamldadclodaa
