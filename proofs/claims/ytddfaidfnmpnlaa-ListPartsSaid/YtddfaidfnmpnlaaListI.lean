/- What layer 17's laws ask of package list, as one word (LstI), over any 'At' (a lister lies at a pointer); the laws' opening. -/
import Derived.Test.YtddfaidfnmpnlaaListRef
import Derived.Test.YtddfaidfnmpnlaaTalI
import Derived.Test.YtddfaidfnmpnlaaTxtRef
namespace Go.Proofs.Ytddfaidfnmpnlaa
open Go.RowKit

/-- what package list answers. At B w v n V: the lister of the first n numbers of V lies at v, all of it in blocks from B on. -/
structure LstI (At : Nat → World → Value → Nat → (Nat → Int) → Prop) : Prop where
  keep_ : ∀ {B : Nat} {w w' : World} {v : Value} {n : Nat} {V : Nat → Int}, At B w v n V → w.heap.size ≤ w'.heap.size → (∀ k, B ≤ k → k < w.heap.size → w'.heap[k]? = w.heap[k]?) → At B w' v n V
  ptr : ∀ {B : Nat} {w : World} {v : Value} {n : Nat} {V : Nat → Int}, At B w v n V → ∃ a, v = .pointer (some a)
  new : ∀ (A : Option Addr) (n c : Nat) (V : Nat → Int) (w : World), n ≤ 4194303 → ItsR w A n c V → Calls Try.prog 6 #[.slice A n c] w fun e w' =>
    (∃ v, e = .returned (.tuple #[v, .int .i64 0]) ∧ At w.heap.size w' v n V) ∧ Below w.heap.size w w'
  docs : ∀ (B : Nat) (v : Value) (n : Nat) (V : Nat → Int) (a b : Int) (w : World), (Lit.int .i64 a).wf = true → (Lit.int .i64 b).wf = true → At B w v n V → Calls Try.prog 8 #[v, .int .i64 a, .int .i64 b] w fun e w' => (∃ u, e = .returned u ∧ EnumR w' (RngS V a b n) u) ∧ Below w.heap.size w w'
  some : ∀ (B : Nat) (v : Value) (n : Nat) (V : Nat → Int) (a b k : Int) (w : World), (Lit.int .i64 a).wf = true → (Lit.int .i64 b).wf = true → (Lit.int .i64 k).wf = true → At B w v n V → Calls Try.prog 10 #[v, .int .i64 a, .int .i64 b, .int .i64 k] w fun e w' => (∃ (A : Option Addr) (c m : Nat) (F G : Nat → Int) (t : Nat), e = .returned (.slice A m c) ∧ EnumS (RngS V a b n) G t ∧ (m : Int) = max 0 (min k (t : Int)) ∧ (∀ p q, p < q → q < m → F p < F q) ∧ (∀ p, p < m → RngS V a b n (F p)) ∧ ItsR w' A m c F) ∧ Below w.heap.size w w'
  nilDocs : ∀ (a b : Int) (w : World), Calls Try.prog 8 #[.pointer none, .int .i64 a, .int .i64 b] w fun e w' => (∃ (A : Option Addr) (c : Nat), e = .returned (.slice A 0 c)) ∧ Below w.heap.size w w'
  nilSome : ∀ (a b k : Int) (w : World), Calls Try.prog 10 #[.pointer none, .int .i64 a, .int .i64 b, .int .i64 k] w fun e w' => (∃ (A : Option Addr) (c : Nat), e = .returned (.slice A 0 c)) ∧ Below w.heap.size w w'
section
variable {At : Nat → World → Value → Nat → (Nat → Int) → Prop}
theorem LstI.keep (I : LstI At) {B : Nat} {w w' : World} {v : Value} {n : Nat} {V : Nat → Int} (h : At B w v n V) (hb : Below w.heap.size w w') : At B w' v n V := I.keep_ h hb.size fun k _ hk => hb.block k hk
/-- the chapter's example. -/
def lxV : Nat → Int := litI [2, 0, 2, 2, 1]
theorem enum_lit {V F : Nat → Int} {a b : Int} {n m : Nat} (h1 : ∀ q, q < m → ∀ p, p < q → F p < F q) (h2 : ∀ j, j < n → a ≤ (j : Int) → (j : Int) < b → ∃ p, p < m ∧ F p = V j) (h3 : ∀ p, p < m → ∃ j : Nat, j < n ∧ a ≤ (j : Int) ∧ (j : Int) < b ∧ V j = F p) : EnumS (RngS V a b n) F m := ⟨fun p q h g => h1 q g p h, fun x => by
  constructor
  · rintro ⟨j, hj, g1, g2, rfl⟩
    exact h2 j hj g1 g2
  · rintro ⟨p, hp, rfl⟩
    exact h3 p hp⟩
theorem lx1 : EnumS (RngS lxV 0 4 5) (litI [0, 2]) 2 := enum_lit (by decide) (by decide) (by decide)
theorem lx2 : EnumS (RngS lxV 2 9 5) (litI [1, 2]) 2 := enum_lit (by decide) (by decide) (by decide)
theorem lx3 : EnumS (RngS lxV 0 5 5) (litI [0, 1, 2]) 3 := enum_lit (by decide) (by decide) (by decide)

set_option maxRecDepth 100000 in
set_option maxHeartbeats 3200000 in
theorem lfirst17_any (I : LstI At) (w : World) : Calls Try.prog 5 #[] w fun e w' => e = .returned (.bool true) ∧ Below w.heap.size w w' := by
  have HI := Lib.hid I
  have i1 : ItsR (w.alloc (.cells #[.int .i64 2, .int .i64 0, .int .i64 2, .int .i64 2, .int .i64 1] 3)) (some ⟨w.heap.size, 0, none⟩) 5 5 lxV := itsR_lit_ [2, 0, 2, 2, 1] (by unfold maxLen; decide) (by decide)
  have hb1 : Below w.heap.size w (w.alloc (.cells #[.int .i64 2, .int .i64 0, .int .i64 2, .int .i64 2, .int .i64 1] 3)) := (Below.refl _ _).alloc (Nat.le_refl _) _
  have HN := Lib.hid (HI.out.new _ 5 5 lxV _ (by decide) i1)
  have HB1 := Lib.hid hb1
  clear I i1 hb1
  go_enter Try.func5, Try.ntmps5
  go_wp2_with fail
  refine HN.out.mono ?_
  rintro e w1 ⟨⟨v, rfl, hAt⟩, hb3⟩
  obtain ⟨pa, rfl⟩ := HI.out.ptr hAt
  have HB2 := Lib.hid (HB1.out.trans (hb3.mono HB1.out.size))
  have HA1 := Lib.hid hAt
  have H1 := Lib.hid (HI.out.docs _ _ _ _ 0 4 w1 (by decide) (by decide) HA1.out)
  clear hAt hb3 HN HB1
  go_wp2_with fail
  refine H1.out.mono ?_
  rintro e w2 ⟨⟨u, rfl, ⟨A2, c2, m2, F2, rfl, hE2, hI2⟩⟩, hb4⟩
  obtain ⟨rfl, hF2⟩ := hE2.one lx1
  have HB3 := Lib.hid (HB2.out.trans (hb4.mono HB2.out.size))
  have i3 : ItsR (w2.alloc (.cells #[.int .i64 0, .int .i64 2] 3)) (some ⟨w2.heap.size, 0, none⟩) 2 2 (litI [0, 2]) := itsR_lit_ [0, 2] (by unfold maxLen; decide) (by decide)
  have hb5 : Below w2.heap.size w2 (w2.alloc (.cells #[.int .i64 0, .int .i64 2] 3)) := (Below.refl _ _).alloc (Nat.le_refl _) _
  have HA2 := Lib.hid (HI.out.keep (HI.out.keep HA1.out hb4) hb5)
  have HS1 := Lib.hid (refSame8_any A2 (some ⟨w2.heap.size, 0, none⟩) 2 2 c2 2 _ _ _ _ _ (by unfold maxLen; omega) (Nat.le_refl _) (Nat.le_refl _) (hI2.below hb5).2.2.2 i3.2.2.2)
  have HB4 := Lib.hid (HB3.out.trans (hb5.mono HB3.out.size))
  have HF2 := Lib.hid hF2
  clear hE2 hI2 hb4 hb5 i3 HA1 HB2 HB3 H1 hF2
  go_wp2_with fail
  refine HS1.out.mono ?_
  rintro e w3 ⟨b, rfl, hbi, hb6⟩
  obtain rfl : b = true := hbi.2 ⟨by trivial, HF2.out⟩
  have HB5 := Lib.hid (HB4.out.trans (hb6.mono HB4.out.size))
  have HA3 := Lib.hid (HI.out.keep HA2.out hb6)
  have H2 := Lib.hid (HI.out.docs _ _ _ _ 2 9 w3 (by decide) (by decide) HA3.out)
  clear hbi hb6 HS1 HA2 HB4 HF2
  go_wp2_with fail
  refine H2.out.mono ?_
  rintro e w4 ⟨⟨u, rfl, ⟨A3, c3, m3, F3, rfl, hE3, hI3⟩⟩, hb7⟩
  obtain ⟨rfl, hF3⟩ := hE3.one lx2
  have HB6 := Lib.hid (HB5.out.trans (hb7.mono HB5.out.size))
  have i4 : ItsR (w4.alloc (.cells #[.int .i64 1, .int .i64 2] 3)) (some ⟨w4.heap.size, 0, none⟩) 2 2 (litI [1, 2]) := itsR_lit_ [1, 2] (by unfold maxLen; decide) (by decide)
  have hb8 : Below w4.heap.size w4 (w4.alloc (.cells #[.int .i64 1, .int .i64 2] 3)) := (Below.refl _ _).alloc (Nat.le_refl _) _
  have HA4 := Lib.hid (HI.out.keep (HI.out.keep HA3.out hb7) hb8)
  have HS2 := Lib.hid (refSame8_any A3 (some ⟨w4.heap.size, 0, none⟩) 2 2 c3 2 _ _ _ _ _ (by unfold maxLen; omega) (Nat.le_refl _) (Nat.le_refl _) (hI3.below hb8).2.2.2 i4.2.2.2)
  have HB7 := Lib.hid (HB6.out.trans (hb8.mono HB6.out.size))
  have HF3 := Lib.hid hF3
  clear hE3 hI3 hb7 hb8 i4 HA3 HB5 HB6 H2 hF3
  go_wp2_with fail
  refine HS2.out.mono ?_
  rintro e w5 ⟨b, rfl, hbi, hb9⟩
  obtain rfl : b = true := hbi.2 ⟨by trivial, HF3.out⟩
  have HB8 := Lib.hid (HB7.out.trans (hb9.mono HB7.out.size))
  have HA5 := Lib.hid (HI.out.keep HA4.out hb9)
  have H3 := Lib.hid (HI.out.some _ _ _ _ 0 5 2 w5 (by decide) (by decide) (by decide) HA5.out)
  clear hbi hb9 HS2 HA4 HB7 HF3
  go_wp2_with fail
  refine H3.out.mono ?_
  rintro e w6 ⟨⟨A4, c4, m4, F4, G4, t4, rfl, hE4, hm4, _, _, _⟩, hb10⟩
  obtain ⟨rfl, _⟩ := hE4.one lx3
  obtain rfl : m4 = 2 := by omega
  have HB9 := Lib.hid (HB8.out.trans (hb10.mono HB8.out.size))
  clear hE4 hm4 hb10 H3 HB8
  go_wp2_with fail
  go_ret
  exact ⟨rfl, HB9.out⟩
end
end Go.Proofs.Ytddfaidfnmpnlaa
