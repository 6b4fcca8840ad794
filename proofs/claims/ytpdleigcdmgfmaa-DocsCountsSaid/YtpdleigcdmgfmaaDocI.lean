/- What layer 12's laws ask of packages text and docs, as one word (DocsI), over any 'At' (a collection lies at a pointer); the laws' opening. -/
import Derived.Test.YtpdleigcdmgfmaaDocRef
import Derived.Test.YtpdleigcdmgfmaaTxtI
import Derived.Test.YtpdleigcdmgfmaaSufI
namespace Go.Proofs.Ytpdleigcdmgfmaa
open Go.RowKit

/-- of which document each place of an order is. -/
def docAt (S : List Sec) (V : Nat → Int) (i : Nat) : Int := (docI S (V i)).1
theorem docAt_room {S : List Sec} {p : Int} : -1 ≤ (docI S p).1 ∧ (docI S p).1 ≤ (S.length : Int) := by
  unfold docI
  split
  · exact ⟨by omega, by show (-1 : Int) ≤ _; omega⟩
  · split
    · rename_i d o h
      have : d ≤ S.length := by
        have h2 : ∀ (S : List Sec) (q d o : Nat), locT S q = some (d, o) → d ≤ S.length := by
          intro S
          induction S with
          | nil => intro q d o h; cases h
          | cons x S ih =>
            intro q d o h
            unfold locT at h
            split at h
            · cases h
              exact Nat.zero_le _
            · rcases e : locT S (q - (x.n + 1)) with _ | ⟨d', o'⟩
              · rw [e] at h; cases h
              · rw [e] at h
                cases h
                have := ih _ _ _ e
                show d' + 1 ≤ S.length + 1
                omega
        exact h2 S _ d o h
      show (-1 : Int) ≤ (d : Int) ∧ (d : Int) ≤ _
      omega
    · exact ⟨by omega, by show (-1 : Int) ≤ _; omega⟩
/-- what packages text and docs answer. -/
structure DocsI (At : Nat → World → Value → List Sec → Prop) : Prop where
  keep_ : ∀ {B : Nat} {w w' : World} {v : Value} {S : List Sec}, At B w v S → w.heap.size ≤ w'.heap.size → (∀ k, B ≤ k → k < w.heap.size → w'.heap[k]? = w.heap[k]?) → At B w' v S
  ptr : ∀ {B : Nat} {w : World} {v : Value} {S : List Sec}, At B w v S → ∃ a, v = .pointer (some a)
  new : ∀ (P : Option Addr) (c : Nat) (L : List Part) (w : World), L.length ≤ c → c ≤ maxLen → (P = none → L = [] ∧ c = 0) → Secs w w.heap.size P L → Calls Try.prog 9 #[.slice P L.length c] w fun e w' =>
    (RightT (docsP L) → ∃ v, e = .returned (.tuple #[v, .int .i64 0]) ∧ At w.heap.size w' v (docsP L)) ∧ (¬ RightT (docsP L) → e = .returned (.tuple #[.pointer none, .int .i64 80])) ∧ Below w.heap.size w w'
  array : ∀ (B : Nat) (v : Value) (S : List Sec) (A : Option Addr) (n c : Nat) (V : Nat → Int) (w : World), At B w v S → n ≤ 4194303 → ItsR w A n c V → Calls Try.prog 10 #[v, .slice A n c] w fun e w' =>
    (n = lenT S ∧ IsPerm V n → ∃ (A2 : Option Addr) (c2 : Nat), e = .returned (.tuple #[.slice A2 n c2, .int .i64 0]) ∧ ItsR w' A2 n c2 (docAt S V)) ∧ (¬ (n = lenT S ∧ IsPerm V n) → ∃ (A2 : Option Addr) (c2 : Nat), e = .returned (.tuple #[.slice A2 0 c2, .int .i64 2])) ∧ Below w.heap.size w w'
  arrayNil : ∀ (w : World), Calls Try.prog 10 #[.pointer none, .slice none 0 0] w fun e w' => (∃ (A2 : Option Addr) (c2 : Nat), e = .returned (.tuple #[.slice A2 0 c2, .int .i64 1])) ∧ Below w.heap.size w w'
  back : ∀ (A : Option Addr) (n c : Nat) (V : Nat → Int) (w : World), n ≤ 4194303 → ItsR w A n c V → Calls Try.prog 14 #[.slice A n c] w fun e w' => (∃ (A2 : Option Addr) (c2 : Nat), e = .returned (.slice A2 n c2) ∧ ItsR w' A2 n c2 (lastD V)) ∧ Below w.heap.size w w'
  ahead : ∀ (A : Option Addr) (n c : Nat) (V : Nat → Int) (w : World), n ≤ 4194303 → ItsR w A n c V → Calls Try.prog 15 #[.slice A n c] w fun e w' => (∃ (A2 : Option Addr) (c2 : Nat), e = .returned (.slice A2 n c2) ∧ ItsR w' A2 n c2 (nextD V n)) ∧ Below w.heap.size w w'
  count : ∀ (A : Option Addr) (n c : Nat) (V : Nat → Int) (d a b : Int) (w : World), n ≤ 4194303 → (Lit.int .i64 d).wf = true → (Lit.int .i64 a).wf = true → (Lit.int .i64 b).wf = true → ItsR w A n c V → Calls Try.prog 19 #[.slice A n c, .int .i64 d, .int .i64 a, .int .i64 b] w fun e w' => e = .returned (.int .i64 ((cntR V d a b n : Nat) : Int)) ∧ Below w.heap.size w w'
theorem DocsI.keep {At : Nat → World → Value → List Sec → Prop} (I : DocsI At) {B : Nat} {w w' : World} {v : Value} {S : List Sec} (h : At B w v S) (hb : Below w.heap.size w w') : At B w' v S :=
  I.keep_ h hb.size fun k _ hk => hb.block k hk

theorem itsR_litD (w : World) (xs : List Int) (hm : xs.length ≤ maxLen) (hx : ∀ x ∈ xs, -9223372036854775808 ≤ x ∧ x ≤ 9223372036854775807) : ItsR (w.alloc (.cells (xs.map fun x => Value.int .i64 x).toArray 3)) (some ⟨w.heap.size, 0, none⟩) xs.length xs.length (litI xs) := ⟨fun e => (by cases e), Nat.le_refl _, hm, its_lit w xs hx⟩
/-- the chapter's example. -/
def dxL : Nat → Int := litI [1, 0, 1, 1, 0]
theorem five_ {P : Nat → Prop} (h0 : P 0) (h1 : P 1) (h2 : P 2) (h3 : P 3) (h4 : P 4) : ∀ i, i < 5 → P i := fun i hi => by
  have h : i = 0 ∨ i = 1 ∨ i = 2 ∨ i = 3 ∨ i = 4 := by omega
  rcases h with rfl | rfl | rfl | rfl | rfl <;> assumption
theorem dxBack : ∀ i, i < 5 → lastD dxL i = litI [-1, -1, 0, 2, 1] i := five_ (by decide) (by decide) (by decide) (by decide) (by decide)
theorem dxAhead : ∀ i, i < 5 → nextD dxL 5 i = litI [2, 4, 3, 5, 5] i := five_ (by decide) (by decide) (by decide) (by decide) (by decide)
theorem dxCount : cntR dxL 1 1 4 5 = 2 := by decide
def dxT (g : Nat) : List Part := [⟨some ⟨g, 0, none⟩, 1, 1, ofList [97]⟩]
theorem dxPerm : IsPerm (litI [1, 0]) 2 := ⟨fun i hi => by
  have h : i = 0 ∨ i = 1 := by omega
  rcases h with rfl | rfl <;> decide, fun i j hij hj => by
  obtain rfl : i = 0 := by omega
  obtain rfl : j = 1 := by omega
  decide⟩
theorem dxDocs (g : Nat) : ∀ i, i < 2 → docAt (docsP (dxT g)) (litI [1, 0]) i = litI [0, 0] i := fun i hi => by
  have h : i = 0 ∨ i = 1 := by omega
  rcases h with rfl | rfl <;> rfl
theorem dxT_secs (w : World) : Secs ((w.alloc (.cells #[.int .u8 97] 5 (1, 2))).alloc (.cells #[.slice (some ⟨w.heap.size, 0, none⟩) 1 1] 44)) (w.heap.size + 2) (some ⟨w.heap.size + 1, 0, none⟩) (dxT w.heap.size) := by
  have h1 : Bys (w.alloc (.cells #[.int .u8 97] 5 (1, 2))) _ _ 1 (ofList [97]) := bys_lit [97] (by decide) w (1, 2)
  obtain ⟨w1, hw1⟩ : ∃ w1, w.alloc (.cells #[.int .u8 97] 5 (1, 2)) = w1 := ⟨_, rfl⟩
  have hs1 : w1.heap.size = w.heap.size + 1 := by rw [← hw1, size_alloc]
  rw [hw1] at h1 ⊢
  have hb12 : Below w1.heap.size w1 (w1.alloc (.cells #[.slice (some ⟨w.heap.size, 0, none⟩) 1 1] 44)) := (Below.refl _ _).alloc (Nat.le_refl _) _
  have hl := lies_new w1 44 [.slice (some ⟨w.heap.size, 0, none⟩) 1 1]
  have h1' := (h1.below (hb12.mono (by omega))).mono_ (B' := w.heap.size + 2) (by omega)
  rw [hs1] at hl
  intro j p hj
  rcases j with _ | j
  · have hj : some _ = some p := hj
    cases hj
    refine ⟨_, rfl, by show w.heap.size + 1 < _; omega, ?_, Nat.le_refl _, by show 1 ≤ maxLen; unfold maxLen; omega, fun e => (by cases e), h1'⟩
    rw [addr_add8]
    exact hl.cell 0
  · simp [dxT] at hj

section
variable {At : Nat → World → Value → List Sec → Prop}
set_option maxRecDepth 100000 in
set_option maxHeartbeats 3200000 in
theorem dfirst_any (I : DocsI At) (w : World) : Calls Try.prog 7 #[] w fun e w' => e = .returned (.bool true) ∧ Below w.heap.size w w' := by
  have HI := Lib.hid I
  have i1 := itsR_litD w [1, 0, 1, 1, 0] (by unfold maxLen; decide) (by decide)
  have hb1 : Below w.heap.size w (w.alloc (.cells #[.int .i64 1, .int .i64 0, .int .i64 1, .int .i64 1, .int .i64 0] 3)) := (Below.refl _ _).alloc (Nat.le_refl _) _
  obtain ⟨w1, hw1⟩ : ∃ W, w.alloc (.cells #[.int .i64 1, .int .i64 0, .int .i64 1, .int .i64 1, .int .i64 0] 3) = W := ⟨_, rfl⟩
  have i1' : ItsR w1 (some ⟨w.heap.size, 0, none⟩) 5 5 dxL := by rw [← hw1]; exact i1
  have hs1 : w1.heap.size = w.heap.size + 1 := by rw [← hw1, size_alloc]
  rw [hw1] at hb1
  have c1 := conv_lit w1 #[.int .u8 97] 1
  have hsx := dxT_secs w1
  have hb2 : Below w1.heap.size w1 ((w1.alloc (.cells #[.int .u8 97] 5 (1, 2))).alloc (.cells #[.slice (some ⟨w1.heap.size, 0, none⟩) 1 1] 44)) :=
    ((Below.refl _ _).alloc (Nat.le_refl _) _).alloc (by rw [size_alloc]; omega) _
  have HN := Lib.hid (HI.out.new (some ⟨w1.heap.size + 1, 0, none⟩) 1 (dxT w1.heap.size) _ (Nat.le_refl 1) (by unfold maxLen; omega) (fun e => (by cases e)) (hsx.mono_ (by rw [size_alloc, size_alloc]; omega)))
  have HRt : Hid (RightT (docsP (dxT w1.heap.size))) := Lib.hid ⟨by show 1 ≤ 256; decide, by show 1 ≤ 65536; decide⟩
  have HLn : Hid (lenT (docsP (dxT w1.heap.size)) = 2) := Lib.hid rfl
  have HDx := Lib.hid (dxDocs w1.heap.size)
  generalize docsP (dxT w1.heap.size) = S at HN HRt HLn HDx
  have HL0 := Lib.hid (i1'.below hb2)
  have hB0 := hb1.trans (hb2.mono hb1.size)
  clear I i1 i1' hb1 hb2 hsx
  rw [hs1] at HN HL0 hB0 c1
  subst hw1
  clear hs1
  go_enter Try.func7, Try.ntmps7
  go_wp2_with fail
  refine HN.out.mono ?_
  rintro e wa ⟨h1, _, hb1⟩
  obtain ⟨v, rfl, hAt⟩ := h1 HRt.out
  obtain ⟨a, rfl⟩ := HI.out.ptr hAt
  have hB1 := hB0.trans (hb1.mono hB0.size)
  have HL1 := Lib.hid (HL0.out.below hb1)
  have i2 := itsR_litD wa [1, 0] (by unfold maxLen; decide) (by decide)
  have hb2 : Below wa.heap.size wa (wa.alloc (.cells #[.int .i64 1, .int .i64 0] 3)) := (Below.refl _ _).alloc (Nat.le_refl _) _
  have HA2 := Lib.hid (HI.out.array _ _ S (some ⟨wa.heap.size, 0, none⟩) 2 2 (litI [1, 0]) _ (HI.out.keep hAt hb2) (by decide) i2)
  have HL2 := Lib.hid (HL1.out.below hb2)
  have hB2 := hB1.trans (hb2.mono hB1.size)
  clear h1 hAt hb1 hb2 i2 HN HL0 HL1 hB0 hB1 c1
  go_wp2_with fail
  refine HA2.out.mono ?_
  rintro e wb ⟨h1, _, hb3⟩
  obtain ⟨AD, cD, rfl, hiD⟩ := h1 ⟨HLn.out.symm, dxPerm⟩
  have hB3 := hB2.trans (hb3.mono hB2.size)
  have HL3 := Lib.hid (HL2.out.below hb3)
  have HD3 := Lib.hid hiD
  have HNil := Lib.hid (HI.out.arrayNil wb)
  clear h1 hb3 hiD HA2 HL2 hB2
  go_wp2_with fail
  refine HNil.out.mono ?_
  rintro e wc ⟨⟨AN, cN, rfl⟩, hb4⟩
  have hB4 := hB3.trans (hb4.mono hB3.size)
  have HL4 := Lib.hid (HL3.out.below hb4)
  have HD4 := Lib.hid (HD3.out.below hb4)
  have HBk := Lib.hid (HI.out.back _ 5 5 dxL wc (by decide) HL4.out)
  clear hb4 HNil HL3 HD3 hB3
  go_wp2_with fail
  refine HBk.out.mono ?_
  rintro e wd ⟨⟨A5, c5, rfl, hi5⟩, hb5⟩
  have hB5 := hB4.trans (hb5.mono hB4.size)
  have i6 := itsR_litD wd [-1, -1, 0, 2, 1] (by unfold maxLen; decide) (by decide)
  have hb6 : Below wd.heap.size wd (wd.alloc (.cells #[.int .i64 (-1), .int .i64 (-1), .int .i64 0, .int .i64 2, .int .i64 1] 3)) := (Below.refl _ _).alloc (Nat.le_refl _) _
  have HL6 := Lib.hid ((HL4.out.below hb5).below hb6)
  have HD6 := Lib.hid ((HD4.out.below hb5).below hb6)
  have hB6 := hB5.trans (hb6.mono hB5.size)
  have HSm := Lib.hid (refSame8_any A5 (some ⟨wd.heap.size, 0, none⟩) 5 5 c5 5 _ (litI [-1, -1, 0, 2, 1]) _ _ _ (by unfold maxLen; omega) (Nat.le_refl _) (Nat.le_refl _) (hi5.below hb6).2.2.2 i6.2.2.2)
  clear hb5 hb6 hi5 i6 HBk HL4 HD4 hB4 hB5
  go_wp2_with fail
  refine HSm.out.mono ?_
  rintro e we ⟨b, rfl, hbi, hb7⟩
  obtain rfl : b = true := hbi.2 ⟨by trivial, dxBack⟩
  have hB7 := hB6.trans (hb7.mono hB6.size)
  have HL7 := Lib.hid (HL6.out.below hb7)
  have HD7 := Lib.hid (HD6.out.below hb7)
  have HAh := Lib.hid (HI.out.ahead _ 5 5 dxL we (by decide) HL7.out)
  clear hbi hb7 HSm HL6 HD6 hB6
  go_wp2_with fail
  refine HAh.out.mono ?_
  rintro e wf ⟨⟨A8, c8, rfl, hi8⟩, hb8⟩
  have hB8 := hB7.trans (hb8.mono hB7.size)
  have i9 := itsR_litD wf [2, 4, 3, 5, 5] (by unfold maxLen; decide) (by decide)
  have hb9 : Below wf.heap.size wf (wf.alloc (.cells #[.int .i64 2, .int .i64 4, .int .i64 3, .int .i64 5, .int .i64 5] 3)) := (Below.refl _ _).alloc (Nat.le_refl _) _
  have HL9 := Lib.hid ((HL7.out.below hb8).below hb9)
  have HD9 := Lib.hid ((HD7.out.below hb8).below hb9)
  have hB9 := hB8.trans (hb9.mono hB8.size)
  have HSm := Lib.hid (refSame8_any A8 (some ⟨wf.heap.size, 0, none⟩) 5 5 c8 5 _ (litI [2, 4, 3, 5, 5]) _ _ _ (by unfold maxLen; omega) (Nat.le_refl _) (Nat.le_refl _) (hi8.below hb9).2.2.2 i9.2.2.2)
  clear hb8 hb9 hi8 i9 HAh HL7 HD7 hB7 hB8
  go_wp2_with fail
  refine HSm.out.mono ?_
  rintro e wg ⟨b, rfl, hbi, hb10⟩
  obtain rfl : b = true := hbi.2 ⟨by trivial, dxAhead⟩
  have hB10 := hB9.trans (hb10.mono hB9.size)
  have HD10 := Lib.hid (HD9.out.below hb10)
  have HCt := Lib.hid (HI.out.count _ 5 5 dxL 1 1 4 wg (by decide) (by decide) (by decide) (by decide) (HL9.out.below hb10))
  rw [dxCount] at HCt
  clear hbi hb10 HSm HL9 HD9 hB9
  go_wp2_with fail
  refine HCt.out.mono ?_
  rintro e wh ⟨rfl, hb11⟩
  have hB11 := hB10.trans (hb11.mono hB10.size)
  have i12 := itsR_litD wh [0, 0] (by unfold maxLen; decide) (by decide)
  have hb12 : Below wh.heap.size wh (wh.alloc (.cells #[.int .i64 0, .int .i64 0] 3)) := (Below.refl _ _).alloc (Nat.le_refl _) _
  have hB12 := hB11.trans (hb12.mono hB11.size)
  have HSm := Lib.hid (refSame8_any AD (some ⟨wh.heap.size, 0, none⟩) 2 2 cD 2 _ (litI [0, 0]) _ _ _ (by unfold maxLen; omega) (Nat.le_refl _) (Nat.le_refl _) ((HD10.out.below hb11).below hb12).2.2.2 i12.2.2.2)
  clear hb11 hb12 i12 HCt HD10 hB10 hB11
  go_wp2_with fail
  refine HSm.out.mono ?_
  rintro e wi ⟨b, rfl, hbi, hb13⟩
  obtain rfl : b = true := hbi.2 ⟨by trivial, HDx.out⟩
  have hB13 := hB12.trans (hb13.mono hB12.size)
  clear hbi hb13 HSm hB12
  go_wp2_with fail
  go_ret
  exact ⟨rfl, hB13⟩
end
end Go.Proofs.Ytpdleigcdmgfmaa
