/- The contracts of image.sections, bytes.Equal and image.Open. -/
import Derived.Test.YtjmajminfmcjcaaDoorImgMem
import Derived.Test.YtjmajminfmcjcaaDoorImgSpans
namespace Go.Proofs.YtjmajminfmcjcaaDoor
open Go.RowKit

/-- bytes held against each other. -/
theorem equal_any (A A' : Option Addr) (n n' c c' : Nat) (V V' : Nat → Nat) (B B' : Nat) (w : World) (h : Bys w B A n V) (h' : Bys w B' A' n' V') :
    Calls Tryd.prog 39 #[.slice A n c, .slice A' n' c'] w fun e w' => e = .returned (.bool (decide (bstr V n = bstr V' n'))) ∧ Below w.heap.size w w' := by
  have f3 := h.conv c
  have f4 := h'.conv c'
  have hs : ((bstr V n).toList == (bstr V' n').toList) = decide (bstr V n = bstr V' n') := str_eq _ _
  clear h h'
  go_enter Tryd.func39, Tryd.ntmps39
  go_wp2_with fail
  go_ret
  exact ⟨rfl, Below.refl _ _⟩

/-- a row of slices of which the first ones are laid. -/
def lcells (L : List Part) (k : Nat) : List Value := pcells L ++ List.replicate (k - L.length) (.slice none 0 0)
theorem lcells_at (L : List Part) (k : Nat) (h : L.length < k) : (lcells L k)[L.length]? = some (.slice none 0 0) := by
  unfold lcells
  rw [List.getElem?_append_right (by rw [pcells_length]; exact Nat.le_refl _), pcells_length, Nat.sub_self, List.getElem?_replicate]
  rw [if_pos (by omega)]
theorem lcells_set (L : List Part) (k : Nat) (p : Part) (h : L.length < k) : (lcells L k).set L.length (.slice p.A p.n p.c) = lcells (L ++ [p]) k := by
  obtain ⟨d, hd⟩ : ∃ d, k - L.length = d + 1 := ⟨k - L.length - 1, by omega⟩
  unfold lcells
  rw [hd, List.set_append_right _ _ (by rw [pcells_length]; exact Nat.le_refl _), pcells_length, Nat.sub_self, List.replicate_succ, List.set_cons_zero, pcells_snoc, List.length_append, show k - (L.length + [p].length) = d by simp; omega, List.append_assoc]
  rfl
theorem lcells_all (L : List Part) (i : Nat) (p : Part) (h : L[i]? = some p) (k : Nat) : (lcells L k)[i]? = some (.slice p.A p.n p.c) := by
  unfold lcells
  rw [List.getElem?_append_left (by rw [pcells_length]; exact (List.getElem?_eq_some_iff.1 h).1)]
  exact pcells_at h
theorem lcells_zero (k : Nat) : madeCells (Value.slice none 0 0).cells (k * 1) = (lcells [] k).toArray := by
  apply Array.ext'
  simp [madeCells, lcells, pcells, Value.cells, Array.toList_range]
  apply List.ext_getElem
  · simp
  · intro i h1 h2
    simp [Nat.mod_one]

section
variable {B : Nat} {w : World} {g gb cb : Nat} {As : Option Addr} {cs m k : Nat} {Y F G : Nat → Nat}
set_option maxRecDepth 100000 in
set_option maxHeartbeats 1600000 in
/-- image.sections. -/
theorem sections_any (h : Img B w g gb cb As cs m k Y F G) :
    Calls Tryd.prog 38 #[.pointer (some ⟨g, 0, none⟩)] w fun e w' => ∃ (P : Option Addr) (L : List Part), e = .returned (.slice P L.length L.length) ∧ L.length = k ∧ Secs w' w'.heap.size P L ∧
      (∀ i p, L[i]? = some p → p.n = G i ∧ p.V = fun j => Y (256 * F i + j)) ∧ Below w.heap.size w w' := by
  have HI := Lib.hid h
  have hk := h.few
  have c1 := h.head.cell 1
  have hgl := h.head.lt
  have hgbl := h.lo.2.2
  obtain ⟨i0, hi0, hz0, hs0, hb0⟩ := info_parts info_sl
  have hmk := run_make (P := Tryd.prog) w 74 31 i0 _ Tryd.underlying74 hi0 hz0 .i64 .i64 (k : Int) (k : Int) (by omega) (Int.le_refl _) (by rw [hb0]; omega) (by omega)
  rw [hs0] at hmk
  simp only [Int.toNat_natCast] at hmk
  rw [lcells_zero] at hmk
  obtain ⟨lo, hlo⟩ : ∃ lo, w.heap.size = lo := ⟨_, rfl⟩
  obtain ⟨wA, hwA⟩ : ∃ W, w.alloc (.cells (lcells [] k).toArray 31) = W := ⟨_, rfl⟩
  have hzA : wA.heap.size = lo + 1 := by rw [← hwA, size_alloc, hlo]
  have hbA : Below lo w wA := by rw [← hwA, ← hlo]; exact (Below.refl _ _).alloc (Nat.le_refl _) _
  have hlA : Lies wA lo 31 (lcells [] k) := by rw [← hwA, ← hlo]; exact lies_new w _ _
  rw [hwA, hlo] at hmk
  rw [hlo] at hgl hgbl ⊢
  have c1A : wA.cell? ⟨g, 1, none⟩ = some (.slice As k cs) := (hbA.cell (p := ⟨g, 1, none⟩) hgl).trans c1
  clear h
  go_enter Tryd.func38, Tryd.ntmps38
  go_wp2_with fail
  go_loopw [17] (fun i wr => ∃ (j : Nat) (Lp : List Part), j ≤ k ∧ i = .int .i64 (j : Int) ∧ Hid (Lp.length = j) ∧ Hid (Lies wr lo 31 (lcells Lp k)) ∧
    Hid (∀ i p, Lp[i]? = some p → (p.n = G i ∧ p.V = fun z => Y (256 * F i + z)) ∧ p.n ≤ p.c ∧ p.c ≤ maxLen ∧ p.A ≠ none ∧ Bys w lo p.A p.n p.V) ∧ Below lo w wr) (fun i _ => k - (intOf i).toNat)
  case atStart => exact ⟨0, [], Nat.zero_le _, rfl, Lib.hid rfl, Lib.hid hlA, Lib.hid (fun i p h => by simp at h), hbA⟩
  case round =>
    clear hlA hbA c1A
    obtain ⟨j, Lp, hj, rfl, hlen, hL, hparts, hb⟩ := hrel
    have hLl := hL.out.lt
    by_cases hlt : j < k
    · have hlti : (j : Int) < (k : Int) := by omega
      have hIr := HI.out.keep (w' := wr) (by rw [hlo]; exact hb)
      obtain ⟨adS, rfl, _, hSl, hc0, hc1⟩ := hIr.spans j hlt
      obtain ⟨wx, hwx⟩ : ∃ W, wr.alloc (.cells #[.int .i64 ((F j : Nat) : Int), .int .i64 ((G j : Nat) : Int)] 92) = W := ⟨_, rfl⟩
      have hbx : Below wr.heap.size wr wx := by rw [← hwx]; exact (Below.refl _ _).alloc (Nat.le_refl _) _
      have hlx := lies_new wr 92 [.int .i64 ((F j : Nat) : Int), .int .i64 ((G j : Nat) : Int)]
      have x0 : wx.cell? ⟨wr.heap.size, 0, none⟩ = some (.int .i64 ((F j : Nat) : Int)) := by rw [← hwx]; exact hlx.cell 0
      have x1 : wx.cell? ⟨wr.heap.size, 1, none⟩ = some (.int .i64 ((G j : Nat) : Int)) := by rw [← hwx]; exact hlx.cell 1
      have HP := Lib.hid (part_any (hIr.keep hbx) (F j) (G j) (hIr.fit j hlt))
      have hBx : Below lo w wx := hb.trans (hbx.mono (by omega))
      have hLx := Lib.hid (hL.out.below hbx hLl)
      clear hIr hlx
      go_wp2_with fail
      refine HP.out.mono ?_
      rintro e w2 ⟨ad, c, rfl, ⟨hGc, hadb⟩, hcm, hby, hb2⟩
      have hL2 := hLx.out.below hb2 (by have := hbx.size; omega)
      have y0 : w2.cell? ⟨lo, j, none⟩ = some (.slice none 0 0) := (hL2.cell j).trans (by
        have h := lcells_at Lp k (by rw [hlen.out]; exact hlt)
        rw [hlen.out] at h
        exact h)
      have y1 := hL2.free j
      have HL2 := Lib.hid hL2
      have HB2 := Lib.hid (hBx.trans (hb2.mono (by have := hbx.size; omega)))
      have HBy : Hid (Bys w lo (some ad) (G j) (fun z => Y (256 * F j + z))) := Lib.hid fun z hz => by
        obtain ⟨ad', e1, e2, e3, e4⟩ := hby z hz
        cases e1
        exact ⟨ad, rfl, by omega, ((hBx.cell (p := ad.add z) (by rw [add_block]; omega)).symm).trans e3, e4⟩
      clear hL2 hby
      go_wp2_with fail
      go_roundw
      case rel =>
        refine ⟨j + 1, Lp ++ [⟨some ad, G j, c, fun z => Y (256 * F j + z)⟩], by omega, by go_num, Lib.hid (by rw [List.length_append, hlen.out]; rfl), Lib.hid ?_, Lib.hid (fun i p hp => ?_), HB2.out.setCell (by show lo ≤ lo; omega) _⟩
        · have h := HL2.out.put j (.slice (some ad) (G j) c)
          have e := lcells_set Lp k ⟨some ad, G j, c, fun z => Y (256 * F j + z)⟩ (by rw [hlen.out]; exact hlt)
          rw [hlen.out] at e
          rw [← e]
          exact h
        · by_cases h : i < j
          · rw [List.getElem?_append_left (by rw [hlen.out]; exact h)] at hp
            exact hparts.out i p hp
          · have hxl := (List.getElem?_eq_some_iff.1 hp).1
            rw [List.length_append, hlen.out] at hxl
            obtain rfl : i = j := by
              have : ([⟨some ad, G j, c, fun z => Y (256 * F j + z)⟩] : List Part).length = 1 := rfl
              omega
            rw [List.getElem?_append_right (by rw [hlen.out]; exact Nat.le_refl _), hlen.out, Nat.sub_self] at hp
            cases hp
            exact ⟨⟨rfl, rfl⟩, hGc, hcm, fun e => (by cases e), HBy.out⟩
      case measure => simp [intOf]; omega
    · obtain rfl : k = j := by omega
      go_wp2_with fail
      go_ret
      refine ⟨some ⟨lo, 0, none⟩, Lp, by rw [hlen.out]; rfl, hlen.out, fun i p hp => ?_, fun i p hp => (hparts.out i p hp).1, hb⟩
      obtain ⟨_, h1, h2, h3, h4⟩ := hparts.out i p hp
      refine ⟨⟨lo, 0, none⟩, rfl, hLl, ?_, h1, h2, fun e => absurd e h3, (h4.below hb).mono_ (by omega)⟩
      rw [Addr.add_mid, Nat.zero_add, hL.out.cell]
      exact lcells_all Lp i p hp _
end

theorem body_small (V : Nat → Nat) (z : Nat) (h : z < 256) : bodyV V z = V z := by
  unfold bodyV place
  congr 1
  omega
theorem body_place (V : Nat → Nat) (f j : Nat) : bodyV V (256 * f + j) = V (place f j) := by
  unfold bodyV place
  congr 1
  omega
theorem body_len (V : Nat → Nat) (i : Nat) (h : i < 60) : lenU (bodyV V) i = lenU V i := by
  unfold lenU
  rw [body_small V _ (by omega), body_small V _ (by omega), body_small V _ (by omega), body_small V _ (by omega)]
theorem body_start (V : Nat → Nat) : ∀ i, i ≤ 60 → startU (bodyV V) i = startU V i
  | 0, _ => rfl
  | i + 1, h => by
    show startU (bodyV V) i + pgs (lenU (bodyV V) i) = startU V i + pgs (lenU V i)
    rw [body_start V i (by omega), body_len V i (by omega)]
/-- an image is joined pages. -/
theorem IsImage.joined {n : Nat} {V : Nat → Nat} {L : List Sec} (h : IsImage n V L) : Joined n V (allPages L) := by
  have hF := h.formed
  have ha := h.all
  have h1 := h.one
  have h2 := hF.size
  have h3 := hF.fits
  rw [ha] at h2 h3
  refine ⟨by omega, h3, h2, fun p hp => ⟨by omega, by omega, hF.ends p (by rw [ha]; exact hp), hF.number p (by rw [ha]; exact hp)⟩⟩
/-- its head names sections that have just these pages. -/
theorem IsImage.spanned {n m : Nat} {V : Nat → Nat} {L : List Sec} (h : IsImage n V L) (hm : n = 264 * m) : Spanned (bodyV V) m L.length := by
  have hF := h.formed
  have hc := h.count
  have h5 := hF.colo.2.2.2.2
  have hf := h.1.few
  refine ⟨by rw [body_small V 4 (by decide), body_small V 5 (by decide), hc, h5]; omega, hf, fun i hi => ?_, ?_⟩
  · obtain ⟨x, hx⟩ : ∃ x, L[i]? = some x := ⟨_, List.getElem?_eq_getElem hi⟩
    rw [body_len V i (by omega), h.len i x hx]
    have := (h.1.short hx).2
    omega
  · rw [body_start V _ hf, h.start _ (Nat.le_refl _)]
    have := h.2.1
    show allPages L = m
    omega
theorem startU_rise (U : Nat → Nat) (i : Nat) : ∀ j, i ≤ j → startU U i ≤ startU U j
  | 0, h => by
    obtain rfl : i = 0 := by omega
    exact Nat.le_refl _
  | j + 1, h => by
    by_cases e : i = j + 1
    · subst e; exact Nat.le_refl _
    · have := startU_rise U i j (by omega)
      show startU U i ≤ startU U j + pgs (lenU U j)
      omega
/-- the struct that Open makes. -/
theorem img_made {w : World} {lo g gb cb m K : Nat} {V : Nat → Nat} {v : Value} (hg : lo ≤ g) (hm : 1 ≤ m ∧ m ≤ 4096) (hV : ∀ z, z < 256 * m → bodyV V z < 256) (hS : Spanned (bodyV V) m K)
    (hrow : w.ownsRow lo 5 1 (.slice (some ⟨gb, 0, none⟩) (256 * m : Nat) cb) (256 * m) (ycells (bodyV V) (256 * m))) (hsp : w.ownsRow lo 92 2 v K (scells (bodyV V) K)) :
    ∃ As cs, v = .slice As K cs ∧ (Lies w g 86 [.slice (some ⟨gb, 0, none⟩) (256 * m : Nat) cb, .slice As K cs] → Img lo w g gb cb As cs m K (bodyV V) (startU (bodyV V)) (lenU (bodyV V))) := by
  have hb := hrow.lt gb rfl
  have hcap : 256 * m ≤ cb ∧ cb ≤ maxLen := by
    rcases hrow.2 with ⟨h, _⟩ | ⟨g', cap, cur, h, _, _, h1, h2, _⟩
    · cases h
    · cases h; exact ⟨h1, h2⟩
  have hbody : ∀ j, j < 256 * m → w.cell? ⟨gb, j, none⟩ = some (.int .u8 ((bodyV V j : Nat) : Int)) ∧ bodyV V j < 256 := fun j hj => by
    have h := hrow.cells rfl j _ (ycells_at _ _ j hj)
    rw [Addr.add_mid, Nat.zero_add] at h
    exact ⟨h, hV j hj⟩
  have hfit : ∀ i, i < K → 256 * startU (bodyV V) i + lenU (bodyV V) i ≤ 256 * m := fun i hi => by
    have h1 := startU_rise (bodyV V) (i + 1) K (by omega)
    have h2 : startU (bodyV V) (i + 1) = startU (bodyV V) i + pgs (lenU (bodyV V) i) := rfl
    have h3 := pgs_room (lenU (bodyV V) i)
    have h4 := hS.2.2.2
    omega
  rcases hsp.2 with ⟨h1, h2⟩ | ⟨g2, cap, cur, h1, h2, h3, h4, h5, h6, h7⟩
  · subst h2
    exact ⟨none, 0, h1, fun hl => ⟨hl, ⟨hg, hb.1, hb.2⟩, hm, hcap, hS.2.1, hbody, fun i hi => absurd hi (Nat.not_lt_zero i), hfit⟩⟩
  · refine ⟨some ⟨g2, 0, none⟩, cap, h1, fun hl => ⟨hl, ⟨hg, hb.1, hb.2⟩, hm, hcap, hS.2.1, hbody, fun i hi => ?_, hfit⟩⟩
    obtain ⟨e1, e2⟩ := scells_at (bodyV V) K i hi
    have hcell : ∀ z u, (scells (bodyV V) K)[z]? = some u → w.cell? ⟨g2, z, none⟩ = some u := fun z u hz => by
      subst h1
      have h := hsp.cells rfl z u hz
      rw [Addr.add_mid, Nat.zero_add] at h
      exact h
    refine ⟨⟨g2, 0, none⟩, rfl, h2, (Array.getElem?_eq_some_iff.1 h3).1, ?_, ?_⟩
    · rw [Addr.add_mid, Nat.zero_add]
      exact hcell _ _ e1
    · rw [Addr.add_mid]
      show w.cell? ⟨g2, 0 + i * 2 + 1, none⟩ = _
      rw [Nat.zero_add]
      exact hcell _ _ e2

/-- an image of the sections L lies at v, in blocks from B on. -/
def ImgAt (B : Nat) (w : World) (v : Value) (L : List Sec) : Prop :=
  ∃ (g gb cb : Nat) (As : Option Addr) (cs : Nat) (Y : Nat → Nat), v = .pointer (some ⟨g, 0, none⟩) ∧ Img B w g gb cb As cs (allPages L) L.length Y (startAt L) (lenAt L) ∧ (∀ j, j < 256 * allPages L → Y j = imageOf L (place 0 j)) ∧ Fits L
end Go.Proofs.YtjmajminfmcjcaaDoor
