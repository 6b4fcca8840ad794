/- The opening of layer 6's laws, over what package image answers (ImgI): it is true, and leaves what was there as it was. -/
import Derived.Test.YtbepoohphmicdaaDoorImgI
import Derived.Test.YtbepoohphmicdaaDoorCrcFirst
namespace Go.Proofs.YtbepoohphmicdaaDoor
open Go.RowKit

theorem make_full (C : Nat) (hC : C ≤ 16777216) (W : World) :
    (Instr.makeSlice 25 (.int .i64 (C : Int)) (.int .i64 (C : Int))).run Tryd.prog W = .ok (.slice (some ⟨W.heap.size, 0, none⟩) C C) (W.alloc (.cells (madeCells (Value.int .u8 0).cells (C * 1)) 5)) := by
  obtain ⟨i, hi, hz, hs, hb⟩ := info_parts info_u8
  have h := run_make (P := Tryd.prog) W 25 5 i _ Tryd.underlying25 hi hz .i64 .i64 (C : Int) (C : Int) (by omega) (by omega) (by rw [hb]; omega) (by omega)
  rw [h, hs]
  simp only [Int.toNat_natCast]
theorem made_at (C k : Nat) (h : k < C) : (madeCells (Value.int .u8 0).cells (C * 1))[k]? = some (.int .u8 0) := by
  simp [madeCells, Value.cells, h, Nat.mod_one]

/-- the sections of the example. -/
def exL (g : Nat) : List Part := [⟨some ⟨g, 0, none⟩, 2, 2, ofList [97, 98]⟩, ⟨none, 0, 0, fun _ => 0⟩, ⟨some ⟨g + 1, 0, none⟩, 300, 300, fun _ => 0⟩]
theorem exL_pages (g : Nat) : allPages (secsP (exL g)) = 4 := by simp [exL, secsP, Part.sec, allPages, startAt, ahead, pgs]
theorem exL_start (g : Nat) : startAt (secsP (exL g)) 2 = 2 := by simp [exL, secsP, Part.sec, startAt, ahead, pgs]
theorem addr_add (g k : Nat) : (⟨g, 0, none⟩ : Addr).add k = ⟨g, k, none⟩ := by unfold Addr.add; split <;> simp_all
theorem exL_secs (w : World) (Z : Array Value) (hZ : ∀ k, k < 300 → Z[k]? = some (.int .u8 0)) :
    Secs (((w.alloc (.cells #[.int .u8 97, .int .u8 98] 5 (2, 3))).alloc (.cells Z 5)).alloc (.cells #[.slice (some ⟨w.heap.size, 0, none⟩) 2 2, .slice none 0 0, .slice (some ⟨w.heap.size + 1, 0, none⟩) 300 300] 25)) (w.heap.size + 3) (some ⟨w.heap.size + 1 + 1, 0, none⟩) (exL w.heap.size) := by
  have h1 : Bys (w.alloc (.cells #[.int .u8 97, .int .u8 98] 5 (2, 3))) _ _ 2 (ofList [97, 98]) := bys_lit [97, 98] (by decide) w (2, 3)
  obtain ⟨w1, hw1⟩ : ∃ w1, w.alloc (.cells #[.int .u8 97, .int .u8 98] 5 (2, 3)) = w1 := ⟨_, rfl⟩
  have hs1 : w1.heap.size = w.heap.size + 1 := by rw [← hw1, size_alloc]
  rw [hw1] at h1 ⊢
  obtain ⟨w2, hw2⟩ : ∃ w2, w1.alloc (.cells Z 5) = w2 := ⟨_, rfl⟩
  have hs2 : w2.heap.size = w.heap.size + 2 := by rw [← hw2, size_alloc, hs1]
  have hb12 : Below w1.heap.size w1 w2 := by rw [← hw2]; exact (Below.refl _ _).alloc (Nat.le_refl _) _
  have hz2 : w2.heap[w.heap.size + 1]? = some (.cells Z 5 (0, 0)) := by
    rw [← hw2, ← hs1]
    exact heap_alloc_last w1 _
  rw [hw2]
  have hb23 : Below w2.heap.size w2 (w2.alloc (.cells #[.slice (some ⟨w.heap.size, 0, none⟩) 2 2, .slice none 0 0, .slice (some ⟨w.heap.size + 1, 0, none⟩) 300 300] 25)) := (Below.refl _ _).alloc (Nat.le_refl _) _
  have hl := lies_new w2 25 [.slice (some ⟨w.heap.size, 0, none⟩) 2 2, .slice none 0 0, .slice (some ⟨w.heap.size + 1, 0, none⟩) 300 300]
  have hg : w2.heap.size = w.heap.size + 1 + 1 := by omega
  have h1' := ((h1.below (hb12.mono (by omega))).below (hb23.mono (by omega))).mono_ (B' := w.heap.size + 3) (by omega)
  have hz3 := (hb23.block (w.heap.size + 1) (by omega)).trans hz2
  rw [hg] at hl
  intro j p hj
  rcases j with _ | _ | _ | j
  · have hj : some _ = some p := hj
    cases hj
    refine ⟨_, rfl, by show w.heap.size + 1 + 1 < _; omega, ?_, Nat.le_refl _, by show 2 ≤ maxLen; unfold maxLen; omega, fun e => (by cases e), h1'⟩
    rw [addr_add]
    exact hl.cell 0
  · have hj : some _ = some p := hj
    cases hj
    refine ⟨_, rfl, by show w.heap.size + 1 + 1 < _; omega, ?_, Nat.le_refl _, Nat.zero_le _, fun _ => ⟨rfl, rfl⟩, fun k hk => absurd hk (Nat.not_lt_zero k)⟩
    rw [addr_add]
    exact hl.cell 1
  · have hj : some _ = some p := hj
    cases hj
    refine ⟨_, rfl, by show w.heap.size + 1 + 1 < _; omega, ?_, Nat.le_refl _, by show 300 ≤ maxLen; unfold maxLen; omega, fun e => (by cases e), fun k hk => ?_⟩
    · rw [addr_add]
      exact hl.cell 2
    · have hk : k < 300 := hk
      refine ⟨_, rfl, by show w.heap.size + 1 < _; omega, ?_, by show 0 < 256; decide⟩
      rw [addr_add, cell_of_row _ _ k Z 5 (0, 0) hz3]
      exact hZ k hk
  · simp [exL] at hj
theorem ab_lit : bstr (ofList [97, 98]) 2 = (⟨#[97, 98]⟩ : ByteArray) := by decide +kernel

section
variable {T : World → Prop} {At : Nat → World → Value → List Sec → Prop}
set_option maxRecDepth 100000 in
set_option maxHeartbeats 3200000 in
theorem ifirst_any (I : ImgI T At) (w : World) (hT : T w) : Calls Tryd.prog 8 #[] w fun e w' => e = .returned (.bool true) ∧ Below w.heap.size w w' := by
  have HI := Lib.hid I
  have HT := Lib.hid hT
  have c1 := conv_lit w #[.int .u8 97, .int .u8 98] 2
  have hmk : ∀ W, (Instr.makeSlice 25 (.int .i64 300) (.int .i64 300)).run Tryd.prog W = .ok (.slice (some ⟨W.heap.size, 0, none⟩) 300 300) (W.alloc (.cells (madeCells (Value.int .u8 0).cells (300 * 1)) 5)) := fun W => make_full 300 (by decide) W
  clear hT I
  go_enter Tryd.func8, Tryd.ntmps8
  obtain ⟨Z, hZ⟩ : ∃ Z, madeCells #[Value.int .u8 0] 300 = Z := ⟨_, rfl⟩
  have hZ8 : ∀ k, k < 300 → Z[k]? = some (.int .u8 0) := fun k hk => by rw [← hZ]; exact made_at 300 k hk
  have hsx := exL_secs w Z hZ8
  have hB3 : Below w.heap.size w (((w.alloc (.cells #[.int .u8 97, .int .u8 98] 5 (2, 3))).alloc (.cells Z 5)).alloc (.cells #[.slice (some ⟨w.heap.size, 0, none⟩) 2 2, .slice none 0 0, .slice (some ⟨w.heap.size + 1, 0, none⟩) 300 300] 25)) :=
    (((Below.refl _ _).alloc (Nat.le_refl _) _).alloc (by rw [size_alloc]; omega) _).alloc (by rw [size_alloc, size_alloc]; omega) _
  have HBu := Lib.hid (HI.out.build (some ⟨w.heap.size + 1 + 1, 0, none⟩) 3 (exL w.heap.size) _ (HI.out.tk HT.out hB3) (Nat.le_refl 3) (by unfold maxLen; omega) (fun e => (by cases e)) (hsx.mono_ (by rw [size_alloc, size_alloc, size_alloc]; omega)))
  have hfit : Fits (secsP (exL w.heap.size)) := ⟨by show 3 ≤ 60; decide, by rw [exL_pages]; decide, hsx.bytes⟩
  have HFit := Lib.hid hfit
  obtain ⟨S, hS⟩ : ∃ S, secsP (exL w.heap.size) = S := ⟨_, rfl⟩
  have HS := Lib.hid hS
  clear hZ8 hsx hfit hS
  go_wp2_with fail
  clear hZ
  refine HBu.out.mono ?_
  rintro e w1 ⟨_, _, h3, hb1⟩
  obtain ⟨v, rfl, hv⟩ := h3 (by show 3 ≤ 60; decide) (by rw [exL_pages]; decide)
  rw [exL_pages, HS.out] at hv
  have hB1 := hB3.trans (hb1.mono hB3.size)
  have hSB : ∀ k, imageOf S k < 256 := fun k => by rw [← HS.out]; exact HFit.out.byte k
  obtain ⟨g, cap, rfl⟩ := Joins.ownsRow_form hv (by decide)
  obtain ⟨X, cx, hX, hXA, hXc, hXo⟩ := row_bys hv (fun k _ => hSB k)
  cases hX
  have hcm : cap ≤ maxLen := by
    rcases hv.2 with ⟨e, _⟩ | ⟨_, _, _, e, _, _, _, h, _⟩
    · cases e
    · cases e
      exact h
  have hImg : IsImage 1056 (imageOf S) S := ⟨by rw [← HS.out]; exact HFit.out, by rw [← HS.out, exL_pages], fun _ _ => rfl⟩
  have HIm := Lib.hid hImg
  have HO := Lib.hid hXo
  have HCM := Lib.hid hcm
  have HOp := Lib.hid (HI.out.open_ (some ⟨g, 0, none⟩) 1056 cap (imageOf S) w1 (HI.out.tk HT.out hB1) (by decide) hXA hXc hcm hXo)
  have hcap1 : cap ≠ 1 := by have h : 1056 ≤ cap := hXc; omega
  clear hv hb1 h3 hB3 HBu c1 hmk hXo hXA hcm hImg
  go_wp2_with fail
  refine HOp.out.mono ?_
  rintro e w2 ⟨h1, _, hb2⟩
  obtain ⟨m, L, hIL, rfl, hAt⟩ := h1 ⟨S, HIm.out⟩
  obtain ⟨pa, rfl⟩ := HI.out.ptr hAt
  have hB2 := hB1.trans (hb2.mono hB1.size)
  have HSm := Lib.hid (HIm.out.same hIL)
  have HAt := Lib.hid hAt
  have HOp2 := Lib.hid (HI.out.open_ (some ((⟨g, 0, none⟩ : Addr).add 1)) 1055 (cap - 1) (fun k => imageOf S (1 + k)) w2 (HI.out.tk HT.out hB2) (by decide) (fun h => (by cases h)) (by have h : 1056 ≤ cap := hXc; omega) (by have := HCM.out; omega) (Bys.cut_ ((HO.out.below hb2).mono_ hb2.size) (by decide)))
  clear hAt hIL h1 HOp hb2
  go_wp2_with fail
  refine HOp2.out.mono ?_
  rintro e w3 ⟨_, h2, hb3⟩
  obtain rfl := h2 (no_image_short (.inl (by decide)))
  have hB3 := hB2.trans (hb3.mono hB2.size)
  have HA3 := Lib.hid (HI.out.keep HAt.out hb3)
  have hSl : S.length = 3 := by rw [← HS.out]; rfl
  have hLl : L.length = 3 := by rw [← HSm.out.1]; exact hSl
  have hS0 : S[0]? = some (⟨2, ofList [97, 98]⟩ : Sec) := by rw [← HS.out]; rfl
  have hS2 : S[2]? = some (⟨300, fun _ => 0⟩ : Sec) := by rw [← HS.out]; rfl
  have hfi : firstI L 2 = 2 := by
    unfold firstI
    rw [if_pos (by rw [hLl]; decide)]
    show startAt L 2 = 2
    unfold startAt
    rw [← HSm.out.ahead 2 (by rw [hSl]; decide)]
    show startAt S 2 = 2
    rw [← HS.out]
    exact exL_start _
  have hsi : sizeI L 2 = 300 := by
    unfold sizeI
    rw [if_pos (by rw [hLl]; decide)]
    show lenAt L 2 = 300
    rw [← HSm.out.lenAt 2, lenAt_at hS2]
  have hpg : allPages L = 4 := by rw [← HSm.out.all, ← HS.out]; exact exL_pages _
  obtain ⟨x, hx⟩ : ∃ x, L[0]? = some x := ⟨_, List.getElem?_eq_getElem (by omega)⟩
  obtain ⟨hxn, hxV⟩ := HSm.out.2 0 _ x hS0 hx
  have hxab : bstr x.V x.n = (⟨#[97, 98]⟩ : ByteArray) := by
    rw [← ab_lit, ← hxn]
    exact bstr_congr fun k hk => (hxV k hk).symm
  have hxlt : ∀ k, k < x.n → x.V k < 256 := (HI.out.fits HA3.out).bytes x (List.mem_of_getElem? hx)
  have hLSe := HI.out.sections _ _ L w3 (HI.out.tk HT.out hB3) HA3.out
  rw [hLl] at hLSe
  have HN := Lib.hid hLSe
  have HFi := Lib.hid hfi
  have HSi := Lib.hid hsi
  have HPg := Lib.hid hpg
  have HX := Lib.hid hx
  have HXab := Lib.hid hxab
  have HXlt := Lib.hid hxlt
  clear h2 hb3 HOp2 HAt hLSe hLl hS0 hS2 hfi hsi hpg hxn hxV hxab hxlt hx hSl
  go_wp2_with fail
  refine HN.out.mono ?_
  rintro e w4 ⟨rfl, hb4⟩
  have hB4 := hB3.trans (hb4.mono hB3.size)
  have HA4 := Lib.hid (HI.out.keep HA3.out hb4)
  have hc := HI.out.first _ _ L 2 w4 (by decide) (HI.out.tk HT.out hB4) HA4.out
  rw [HFi.out] at hc
  have HC1 := Lib.hid hc
  clear hc HN HA3 hb4 hB3
  go_wp2_with fail
  refine HC1.out.mono ?_
  rintro e w5 ⟨rfl, hb5⟩
  have hB5 := hB4.trans (hb5.mono hB4.size)
  have HA5 := Lib.hid (HI.out.keep HA4.out hb5)
  have hc := HI.out.size _ _ L 2 w5 (by decide) (HI.out.tk HT.out hB5) HA5.out
  rw [HSi.out] at hc
  have HC2 := Lib.hid hc
  clear hc HC1 HA4 hb5 hB4
  go_wp2_with fail
  refine HC2.out.mono ?_
  rintro e w6 ⟨rfl, hb6⟩
  have hB6 := hB5.trans (hb6.mono hB5.size)
  have HA6 := Lib.hid (HI.out.keep HA5.out hb6)
  have hc := HI.out.pages _ _ L w6 (HI.out.tk HT.out hB6) HA6.out
  rw [HPg.out] at hc
  have HC3 := Lib.hid hc
  clear hc HC2 HA5 hb6 hB5
  go_wp2_with fail
  refine HC3.out.mono ?_
  rintro e w7 ⟨rfl, hb7⟩
  have hB7 := hB6.trans (hb7.mono hB6.size)
  have HA7 := Lib.hid (HI.out.keep HA6.out hb7)
  have HC4 := Lib.hid (HI.out.section_ _ _ L 0 w7 (by decide) (HI.out.tk HT.out hB7) HA7.out)
  clear HC3 HA6 hb7 hB6
  go_wp2_with fail
  refine HC4.out.mono ?_
  rintro e w8 ⟨hs1, _, hb8⟩
  obtain ⟨u, rfl, hu⟩ := hs1 x (by decide) HX.out
  have hB8 := hB7.trans (hb8.mono hB7.size)
  have hcv := row_conv hu HXlt.out
  rw [HXab.out] at hcv
  clear hs1 hu HC4 hb8
  go_wp2_with fail
  go_ret
  exact ⟨rfl, hB8⟩
end
end Go.Proofs.YtbepoohphmicdaaDoor
