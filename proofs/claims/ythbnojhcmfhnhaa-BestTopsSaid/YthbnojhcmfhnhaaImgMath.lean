/- What a page is, byte for byte; and what tells pages apart. (Plain, over XCrc's words.) What an image is, byte for byte: sections over pages, the head ahead of them; which bytes are an image, told page by page; images are alike just if their sections are. (Plain, over XPageMath.) -/
import Derived.Test.YthbnojhcmfhnhaaCrc
namespace Go.Proofs.Ythbnojhcmfhnhaa
open Go.RowKit

/-- n bytes, and noughts behind them. -/
def padded (V : Nat → Nat) (n : Nat) : Nat → Nat := fun k => if k < n then V k else 0
/-- a page's bytes and its number. -/
def bodyOf (V : Nat → Nat) (n t : Nat) : Nat → Nat := both (padded V n) (byteOf t) 256
/-- a page. -/
def pageOf (V : Nat → Nat) (n t : Nat) : Nat → Nat := behind (bodyOf V n t) 260

theorem padded_lt {V : Nat → Nat} {n : Nat} (hV : ∀ k, k < n → V k < 256) (k : Nat) : padded V n k < 256 := by
  unfold padded
  split
  · exact hV k (by assumption)
  · decide
theorem bodyOf_lt {V : Nat → Nat} {n t : Nat} (hV : ∀ k, k < n → V k < 256) (k : Nat) : bodyOf V n t k < 256 := by
  unfold bodyOf both
  split
  · exact padded_lt hV k
  · exact byteOf_lt _ _
theorem pageOf_lt {V : Nat → Nat} {n t : Nat} (hV : ∀ k, k < n → V k < 256) (k : Nat) : pageOf V n t k < 256 := behind_lt (fun k _ => bodyOf_lt hV k) k
theorem pageOf_ends (V : Nat → Nat) (n t : Nat) : Pl.Ends (pageOf V n t) 260 := behind_ends _ _
theorem pageOf_body (V : Nat → Nat) (n t k : Nat) (h : k < 260) : pageOf V n t k = bodyOf V n t k := behind_old _ _ _ h
theorem pageOf_bytes (V : Nat → Nat) (n t k : Nat) (h : k < 256) : pageOf V n t k = padded V n k := by
  rw [pageOf_body V n t k (by omega)]
  unfold bodyOf both
  rw [if_pos h]
theorem pageOf_old (V : Nat → Nat) (n t k : Nat) (h : k < n) (hn : n ≤ 256) : pageOf V n t k = V k := by
  rw [pageOf_bytes V n t k (by omega)]
  unfold padded
  rw [if_pos h]
theorem pageOf_nought (V : Nat → Nat) (n t k : Nat) (h : n ≤ k) (hk : k < 256) : pageOf V n t k = 0 := by
  rw [pageOf_bytes V n t k hk]
  unfold padded
  rw [if_neg (by omega)]
theorem pageOf_number (V : Nat → Nat) (n t i : Nat) (h : i < 4) : pageOf V n t (256 + i) = byteOf t i := by
  rw [pageOf_body V n t _ (by omega)]
  unfold bodyOf both
  rw [if_neg (by omega), show 256 + i - 256 = i by omega]
/-- the number that stands in a page. -/
def numberOf (U : Nat → Nat) : Nat := U 256 + 256 * U 257 + 65536 * U 258 + 16777216 * U 259
theorem byteOf_0 (t : Nat) : byteOf t 0 = t % 256 := by unfold byteOf; rw [Nat.pow_zero, Nat.div_one]
theorem byteOf_1 (t : Nat) (h : t < 65536) : byteOf t 1 = t / 256 := by unfold byteOf; rw [Nat.pow_one]; omega
theorem byteOf_2 (t : Nat) (h : t < 65536) : byteOf t 2 = 0 := by unfold byteOf; rw [show (256 : Nat) ^ 2 = 65536 from rfl]; omega
theorem byteOf_3 (t : Nat) (h : t < 65536) : byteOf t 3 = 0 := by unfold byteOf; rw [show (256 : Nat) ^ 3 = 16777216 from rfl]; omega
theorem numberOf_page (V : Nat → Nat) (n t : Nat) (h : t < 65536) : numberOf (pageOf V n t) = t := by
  unfold numberOf
  have e0 := pageOf_number V n t 0 (by omega)
  have e1 := pageOf_number V n t 1 (by omega)
  have e2 := pageOf_number V n t 2 (by omega)
  have e3 := pageOf_number V n t 3 (by omega)
  rw [byteOf_0] at e0
  rw [byteOf_1 t h] at e1
  rw [byteOf_2 t h] at e2
  rw [byteOf_3 t h] at e3
  rw [show 256 = 256 + 0 from rfl, e0, show 257 = 256 + 1 from rfl, e1, show 258 = 256 + 2 from rfl, e2, show 259 = 256 + 3 from rfl, e3]
  omega
/-- a number below 4096, told by its bytes. -/
theorem number_small {U : Nat → Nat} (hU : ∀ k, k < 264 → U k < 256) : numberOf U < 4096 ↔ U 257 ≤ 15 ∧ U 258 = 0 ∧ U 259 = 0 := by
  have a0 := hU 256 (by omega)
  unfold numberOf
  omega
/-- pages of unlike numbers are unlike. -/
theorem page_numbers {V V' : Nat → Nat} {n n' t t' : Nat} (ht : t < 65536) (ht' : t' < 65536) (h : ∀ k, k < 264 → pageOf V n t k = pageOf V' n' t' k) : t = t' := by
  have e1 := numberOf_page V n t ht
  have e2 := numberOf_page V' n' t' ht'
  rw [← e1, ← e2]
  unfold numberOf
  rw [h 256 (by omega), h 257 (by omega), h 258 (by omega), h 259 (by omega)]
/-- pages of unlike bytes are unlike. -/
theorem page_bytes {V V' : Nat → Nat} {n t t' : Nat} (hn : n ≤ 256) (h : ∀ k, k < 264 → pageOf V n t k = pageOf V' n t' k) : ∀ k, k < n → V k = V' k := fun k hk => by
  have e := h k (by omega)
  rw [pageOf_old V n t k hk hn, pageOf_old V' n t' k hk hn] at e
  exact e
/-- what ends with its sum and has a small number is a page: its own bytes and number's. -/
theorem page_back {U : Nat → Nat} (hU : ∀ k, k < 264 → U k < 256) (hE : Pl.Ends U 260) (hN : numberOf U < 4096) : ∀ k, k < 264 → U k = pageOf U 256 (numberOf U) k := by
  obtain ⟨h1, h2, h3⟩ := (number_small hU).1 hN
  have a0 := hU 256 (by omega)
  have hb : ∀ k, k < 260 → U k = bodyOf U 256 (numberOf U) k := fun k hk => by
    unfold bodyOf both padded
    by_cases hk2 : k < 256
    · rw [if_pos hk2, if_pos hk2]
    · rw [if_neg hk2]
      have hk3 : k = 256 ∨ k = 257 ∨ k = 258 ∨ k = 259 := by omega
      have hl : numberOf U < 65536 := by omega
      rcases hk3 with rfl | rfl | rfl | rfl
      · rw [byteOf_0]; unfold numberOf; omega
      · rw [byteOf_1 _ hl]; unfold numberOf; omega
      · rw [byteOf_2 _ hl]; exact h2
      · rw [byteOf_3 _ hl]; exact h3
  intro k hk
  by_cases hk2 : k < 260
  · rw [pageOf_body _ _ _ _ hk2]; exact hb k hk2
  · have e := hE (k - 260) (by omega)
    rw [show 260 + (k - 260) = k by omega] at e
    have e2 := behind_new (bodyOf U 256 (numberOf U)) 260 (k - 260)
    rw [show 260 + (k - 260) = k by omega] at e2
    show U k = behind (bodyOf U 256 (numberOf U)) 260 k
    rw [e, e2, sumN_congr hb]
    rfl
end Go.Proofs.Ythbnojhcmfhnhaa

namespace Go.Proofs.Ythbnojhcmfhnhaa

/-- a section: how long it is, its bytes. -/
structure Sec where
  n : Nat
  V : Nat → Nat
/-- how many pages so many bytes need. -/
def pgs (n : Nat) : Nat := (n + 255) / 256
/-- what of a section stands in its j-th page. -/
def Sec.part (s : Sec) (j : Nat) : Sec := ⟨min 256 (s.n - 256 * j), fun k => s.V (256 * j + k)⟩
/-- what stands in a section's pages. -/
def Sec.pages (s : Sec) : List Sec := (List.range (pgs s.n)).map s.part
/-- the i-th section's length. -/
def lenAt (L : List Sec) (i : Nat) : Nat := (L[i]?.map Sec.n).getD 0
/-- the head's bytes. -/
def headV (L : List Sec) (k : Nat) : Nat :=
  if k = 0 then 99 else if k = 1 then 111 else if k = 2 then 108 else if k = 3 then 111 else if k = 4 then L.length else if k = 5 then 0 else byteOf (lenAt L ((k - 6) / 4)) ((k - 6) % 4)
/-- what stands in the head. -/
def headOf (L : List Sec) : Sec := ⟨6 + 4 * L.length, headV L⟩
/-- what stands in all pages. -/
def body (L : List Sec) : List Sec := headOf L :: L.flatMap Sec.pages
/-- how many pages the first s sections have. -/
def ahead (L : List Sec) (s : Nat) : Nat := ((L.take s).map fun x => pgs x.n).sum
/-- the s-th section's first page. -/
def startAt (L : List Sec) (s : Nat) : Nat := 1 + ahead L s
/-- how many pages. -/
def allPages (L : List Sec) : Nat := startAt L L.length
/-- an image's bytes. -/
def imageOf (L : List Sec) : Nat → Nat := fun k => match (body L)[k / 264]? with
  | some c => pageOf c.V c.n (k / 264) (k % 264)
  | none => 0

theorem pages_length (s : Sec) : s.pages.length = pgs s.n := by unfold Sec.pages; simp
theorem pages_at (s : Sec) (j : Nat) (h : j < pgs s.n) : s.pages[j]? = some (s.part j) := by
  unfold Sec.pages
  rw [List.getElem?_map, List.getElem?_range h]
  rfl
theorem ahead_zero (L : List Sec) : ahead L 0 = 0 := rfl
theorem ahead_cons (y : Sec) (L : List Sec) (s : Nat) : ahead (y :: L) (s + 1) = pgs y.n + ahead L s := by
  unfold ahead
  simp
theorem ahead_succ (L : List Sec) (s : Nat) (x : Sec) (h : L[s]? = some x) : ahead L (s + 1) = ahead L s + pgs x.n := by
  unfold ahead
  rw [List.take_add_one, h]
  simp
theorem startAt_succ (L : List Sec) (s : Nat) (x : Sec) (h : L[s]? = some x) : startAt L (s + 1) = startAt L s + pgs x.n := by
  unfold startAt
  rw [ahead_succ L s x h]
  omega
theorem flat_length : ∀ L : List Sec, (L.flatMap Sec.pages).length = ahead L L.length
  | [] => rfl
  | y :: L => by
    rw [List.flatMap_cons, List.length_append, pages_length, flat_length L, List.length_cons, ahead_cons]
theorem body_length (L : List Sec) : (body L).length = allPages L := by
  unfold body allPages startAt
  rw [List.length_cons, flat_length]
  omega
theorem flat_at : ∀ (L : List Sec) (s : Nat) (x : Sec) (j : Nat), L[s]? = some x → j < pgs x.n → (L.flatMap Sec.pages)[ahead L s + j]? = some (x.part j)
  | [], s, x, j, h, _ => by simp at h
  | y :: L, 0, x, j, h, hj => by
    simp at h
    subst h
    rw [List.flatMap_cons, ahead_zero, Nat.zero_add, List.getElem?_append_left (by rw [pages_length]; exact hj)]
    exact pages_at _ _ hj
  | y :: L, s + 1, x, j, h, hj => by
    rw [List.flatMap_cons, ahead_cons, List.getElem?_append_right (by rw [pages_length]; omega), pages_length, show pgs y.n + ahead L s + j - pgs y.n = ahead L s + j by omega]
    exact flat_at L s x j (by simpa using h) hj
theorem flat_split : ∀ (L : List Sec) (p : Nat), p < ahead L L.length → ∃ s x j, L[s]? = some x ∧ j < pgs x.n ∧ p = ahead L s + j
  | [], p, h => by simp [ahead] at h
  | y :: L, p, h => by
    by_cases hp : p < pgs y.n
    · exact ⟨0, y, p, rfl, hp, by rw [ahead_zero]; omega⟩
    · rw [List.length_cons, ahead_cons] at h
      obtain ⟨s, x, j, h1, h2, h3⟩ := flat_split L (p - pgs y.n) (by omega)
      exact ⟨s + 1, x, j, by simpa using h1, h2, by rw [ahead_cons]; omega⟩
/-- the head. -/
theorem body_head (L : List Sec) : (body L)[0]? = some (headOf L) := rfl
/-- a section's page. -/
theorem body_at (L : List Sec) (s : Nat) (x : Sec) (j : Nat) (h : L[s]? = some x) (hj : j < pgs x.n) : (body L)[startAt L s + j]? = some (x.part j) := by
  unfold body startAt
  rw [show 1 + ahead L s + j = (ahead L s + j) + 1 by omega, List.getElem?_cons_succ]
  exact flat_at L s x j h hj
/-- every page is the head, or a section's. -/
theorem body_split (L : List Sec) (p : Nat) (h : p < allPages L) : p = 0 ∨ ∃ s x j, L[s]? = some x ∧ j < pgs x.n ∧ p = startAt L s + j := by
  rcases p with _ | p
  · exact .inl rfl
  · unfold allPages startAt at h
    obtain ⟨s, x, j, h1, h2, h3⟩ := flat_split L p (by omega)
    exact .inr ⟨s, x, j, h1, h2, by unfold startAt; omega⟩
theorem image_at (L : List Sec) (p j : Nat) (c : Sec) (h : (body L)[p]? = some c) (hj : j < 264) : imageOf L (264 * p + j) = pageOf c.V c.n p j := by
  unfold imageOf
  rw [show (264 * p + j) / 264 = p by omega, show (264 * p + j) % 264 = j by omega, h]

/-! A page of an image: it ends with its sum, has its number, holds its part. -/
theorem part_le (s : Sec) (j : Nat) : (s.part j).n ≤ 256 := by unfold Sec.part; exact Nat.min_le_left _ _
theorem part_padded (s : Sec) (j k : Nat) (hk : k < 256) : padded (s.part j).V (s.part j).n k = padded s.V s.n (256 * j + k) := by
  unfold padded Sec.part
  by_cases h : 256 * j + k < s.n
  · rw [if_pos (by show k < min 256 (s.n - 256 * j); omega), if_pos h]
  · rw [if_neg (by show ¬ k < min 256 (s.n - 256 * j); omega), if_neg h]
theorem ends_congr {V U : Nat → Nat} {n : Nat} (h : ∀ k, k < n + 4 → V k = U k) (hV : Pl.Ends V n) : Pl.Ends U n := fun i hi => by
  rw [← h (n + i) (by omega), hV i hi, sumN_congr fun k hk => h k (by omega)]
theorem numberOf_congr {V U : Nat → Nat} (h : ∀ k, k < 264 → V k = U k) : numberOf V = numberOf U := by
  unfold numberOf
  rw [h 256 (by omega), h 257 (by omega), h 258 (by omega), h 259 (by omega)]
theorem pageOf_congr {V V' : Nat → Nat} {n n' : Nat} (t : Nat) (h : ∀ k, k < 256 → padded V n k = padded V' n' k) (k : Nat) : pageOf V n t k = pageOf V' n' t k := by
  unfold pageOf
  have hb : ∀ j, j < 260 → bodyOf V n t j = bodyOf V' n' t j := fun j _ => by
    unfold bodyOf both
    split
    · exact h j (by assumption)
    · rfl
  unfold behind both
  rw [sumN_congr hb]
  split
  · exact hb k (by assumption)
  · rfl
/-- a page's bytes within an image. -/
theorem image_byte (L : List Sec) (p k : Nat) (c : Sec) (h : (body L)[p]? = some c) (hk : k < 256) : imageOf L (264 * p + k) = padded c.V c.n k := by
  rw [image_at L p k c h (by omega)]
  exact pageOf_bytes _ _ _ _ hk
theorem head_byte (L : List Sec) (k : Nat) (hk : k < 256) : imageOf L k = padded (headV L) (6 + 4 * L.length) k := by
  have h := image_byte L 0 k (headOf L) (body_head L) hk
  rw [Nat.mul_zero, Nat.zero_add] at h
  exact h
/-- where the k-th byte of a section that begins at page f stands. -/
def place (f k : Nat) : Nat := 264 * (f + k / 256) + k % 256
theorem sec_byte (L : List Sec) (s : Nat) (x : Sec) (k : Nat) (h : L[s]? = some x) (hk : k < 256 * pgs x.n) : imageOf L (place (startAt L s) k) = padded x.V x.n k := by
  unfold place
  rw [image_byte L _ (k % 256) _ (body_at L s x (k / 256) h (by omega)) (by omega), part_padded _ _ _ (by omega), show 256 * (k / 256) + k % 256 = k by omega]
theorem pgs_room (n : Nat) : n ≤ 256 * pgs n := by unfold pgs; omega
theorem image_ends (L : List Sec) (p : Nat) (hp : p < allPages L) : Pl.Ends (fun j => imageOf L (264 * p + j)) 260 := by
  obtain ⟨c, hc⟩ : ∃ c, (body L)[p]? = some c := ⟨_, List.getElem?_eq_getElem (by rw [body_length]; exact hp)⟩
  exact ends_congr (fun k hk => (image_at L p k c hc (by omega)).symm) (pageOf_ends c.V c.n p)
theorem image_number (L : List Sec) (p : Nat) (hp : p < allPages L) (h4 : p < 65536) : numberOf (fun j => imageOf L (264 * p + j)) = p := by
  obtain ⟨c, hc⟩ : ∃ c, (body L)[p]? = some c := ⟨_, List.getElem?_eq_getElem (by rw [body_length]; exact hp)⟩
  rw [numberOf_congr (fun k hk => image_at L p k c hc hk)]
  exact numberOf_page c.V c.n p h4

/-! Which sections may be. -/
structure Fits (L : List Sec) : Prop where
  few : L.length ≤ 60
  pages : allPages L ≤ 4096
  bytes : ∀ s ∈ L, ∀ k, k < s.n → s.V k < 256
theorem ahead_le : ∀ (L : List Sec) (s : Nat) (x : Sec), L[s]? = some x → ahead L s + pgs x.n ≤ ahead L L.length
  | [], s, x, h => by simp at h
  | y :: L, 0, x, h => by
    simp at h
    subst h
    rw [List.length_cons, ahead_cons, ahead_zero]
    omega
  | y :: L, s + 1, x, h => by
    have := ahead_le L s x (by simpa using h)
    rw [List.length_cons, ahead_cons, ahead_cons]
    omega
theorem Fits.short {L : List Sec} (h : Fits L) {s : Nat} {x : Sec} (hs : L[s]? = some x) : startAt L s + pgs x.n ≤ allPages L ∧ x.n ≤ 1048320 := by
  have h1 := ahead_le L s x hs
  have h2 := h.pages
  have h3 := pgs_room x.n
  unfold allPages startAt at h2 ⊢
  omega
theorem headV_lt (L : List Sec) (h : L.length ≤ 60) (k : Nat) : headV L k < 256 := by
  unfold headV
  repeat' split
  all_goals first | omega | exact byteOf_lt _ _
theorem headV_len (L : List Sec) (i b : Nat) (hb : b < 4) : headV L (6 + 4 * i + b) = byteOf (lenAt L i) b := by
  unfold headV
  rw [if_neg (by omega), if_neg (by omega), if_neg (by omega), if_neg (by omega), if_neg (by omega), if_neg (by omega), show (6 + 4 * i + b - 6) / 4 = i by omega, show (6 + 4 * i + b - 6) % 4 = b by omega]
theorem Fits.byte {L : List Sec} (h : Fits L) (k : Nat) : imageOf L k < 256 := by
  unfold imageOf
  split
  · rename_i c hc
    refine pageOf_lt (fun j hj => ?_) _
    have hm := List.mem_of_getElem? hc
    unfold body at hm
    rcases List.mem_cons.1 hm with rfl | hm
    · exact headV_lt L h.few j
    · obtain ⟨x, hx, hx2⟩ := List.mem_flatMap.1 hm
      unfold Sec.pages at hx2
      obtain ⟨i, _, rfl⟩ := List.mem_map.1 hx2
      refine h.bytes x hx _ ?_
      have : j < min 256 (x.n - 256 * i) := hj
      omega
  · decide

/-! What bytes say of themselves. -/
def lenU (U : Nat → Nat) (i : Nat) : Nat := U (6 + 4 * i) + 256 * U (6 + 4 * i + 1) + 65536 * U (6 + 4 * i + 2) + 16777216 * U (6 + 4 * i + 3)
def startU (U : Nat → Nat) : Nat → Nat
  | 0 => 1
  | s + 1 => startU U s + pgs (lenU U s)
def secU (U : Nat → Nat) (i : Nat) : Sec := ⟨lenU U i, fun k => U (place (startU U i) k)⟩
def secsU (U : Nat → Nat) : List Sec := (List.range (U 4)).map (secU U)
theorem secsU_length (U : Nat → Nat) : (secsU U).length = U 4 := by unfold secsU; simp
theorem secsU_at (U : Nat → Nat) (i : Nat) (h : i < U 4) : (secsU U)[i]? = some (secU U i) := by
  unfold secsU
  rw [List.getElem?_map, List.getElem?_range h]
  rfl
theorem secsU_start (U : Nat → Nat) : ∀ i, i ≤ U 4 → startAt (secsU U) i = startU U i
  | 0, _ => rfl
  | i + 1, h => by
    rw [startAt_succ _ i _ (secsU_at U i (by omega)), secsU_start U i (by omega)]
    rfl
theorem secsU_all (U : Nat → Nat) : allPages (secsU U) = startU U (U 4) := by
  unfold allPages
  rw [secsU_length]
  exact secsU_start U _ (Nat.le_refl _)

/-- bytes that are an image, told page by page. -/
structure Formed (N : Nat) (U : Nat → Nat) : Prop where
  size : N = 264 * startU U (U 4)
  few : U 4 ≤ 60
  fits : startU U (U 4) ≤ 4096
  ends : ∀ p, p < startU U (U 4) → Pl.Ends (fun j => U (264 * p + j)) 260
  number : ∀ p, p < startU U (U 4) → numberOf (fun j => U (264 * p + j)) = p
  colo : U 0 = 99 ∧ U 1 = 111 ∧ U 2 = 108 ∧ U 3 = 111 ∧ U 5 = 0
  headNought : ∀ k, 6 + 4 * U 4 ≤ k → k < 256 → U k = 0
  nought : ∀ i, i < U 4 → ∀ k, lenU U i ≤ k → k < 256 * pgs (lenU U i) → U (place (startU U i) k) = 0
/-- bytes that are an image of sections. -/
def IsImage (N : Nat) (U : Nat → Nat) (L : List Sec) : Prop := Fits L ∧ N = 264 * allPages L ∧ ∀ k, k < N → U k = imageOf L k

theorem four_bytes (n : Nat) (h : n < 4294967296) : byteOf n 0 + 256 * byteOf n 1 + 65536 * byteOf n 2 + 16777216 * byteOf n 3 = n := by
  unfold byteOf
  rw [Nat.pow_zero, Nat.pow_one, show (256 : Nat) ^ 2 = 65536 from rfl, show (256 : Nat) ^ 3 = 16777216 from rfl]
  omega
theorem byte_four (a b c d : Nat) (ha : a < 256) (hb : b < 256) (hc : c < 256) (hd : d < 256) (i : Nat) (hi : i < 4) : byteOf (a + 256 * b + 65536 * c + 16777216 * d) i = if i = 0 then a else if i = 1 then b else if i = 2 then c else d := by
  have h : i = 0 ∨ i = 1 ∨ i = 2 ∨ i = 3 := by omega
  unfold byteOf
  rcases h with rfl | rfl | rfl | rfl
  · rw [Nat.pow_zero, if_pos rfl]; omega
  · rw [Nat.pow_one, if_neg (by decide), if_pos rfl]; omega
  · rw [show (256 : Nat) ^ 2 = 65536 from rfl, if_neg (by decide), if_neg (by decide), if_pos rfl]; omega
  · rw [show (256 : Nat) ^ 3 = 16777216 from rfl, if_neg (by decide), if_neg (by decide), if_neg (by decide)]; omega
theorem lenAt_at {L : List Sec} {i : Nat} {x : Sec} (h : L[i]? = some x) : lenAt L i = x.n := by unfold lenAt; rw [h]; rfl
theorem place_lt {f k m : Nat} (hk : k < 256 * m) : place f k < 264 * (f + m) := by
  unfold place
  omega

section
variable {N : Nat} {U : Nat → Nat} {L : List Sec}
theorem IsImage.one (h : IsImage N U L) : 264 ≤ N := by
  have := h.2.1
  unfold allPages startAt at this
  omega
theorem IsImage.head (h : IsImage N U L) (k : Nat) (hk : k < 256) : U k = padded (headV L) (6 + 4 * L.length) k := by
  rw [h.2.2 k (by have := h.one; omega), head_byte L k hk]
theorem IsImage.headIn (h : IsImage N U L) (k : Nat) (hk : k < 6 + 4 * L.length) : U k = headV L k := by
  have := h.1.few
  rw [h.head k (by omega)]
  unfold padded
  rw [if_pos hk]
theorem IsImage.count (h : IsImage N U L) : U 4 = L.length := h.headIn 4 (by omega)
theorem IsImage.len (h : IsImage N U L) (i : Nat) (x : Sec) (hx : L[i]? = some x) : lenU U i = x.n := by
  have hi := (List.getElem?_eq_some_iff.1 hx).1
  have hn := (h.1.short hx).2
  unfold lenU
  have e0 := headV_len L i 0 (by omega)
  rw [Nat.add_zero] at e0
  rw [h.headIn (6 + 4 * i) (by omega), h.headIn (6 + 4 * i + 1) (by omega), h.headIn (6 + 4 * i + 2) (by omega), h.headIn (6 + 4 * i + 3) (by omega), e0, headV_len L i 1 (by omega), headV_len L i 2 (by omega), headV_len L i 3 (by omega), lenAt_at hx]
  exact four_bytes x.n (by omega)
theorem IsImage.start (h : IsImage N U L) : ∀ i, i ≤ L.length → startU U i = startAt L i
  | 0, _ => rfl
  | i + 1, hi => by
    obtain ⟨x, hx⟩ : ∃ x, L[i]? = some x := ⟨_, List.getElem?_eq_getElem (by omega)⟩
    rw [startAt_succ L i x hx, ← h.start i (by omega)]
    show startU U i + pgs (lenU U i) = _
    rw [h.len i x hx]
theorem IsImage.all (h : IsImage N U L) : startU U (U 4) = allPages L := by rw [h.count]; exact h.start _ (Nat.le_refl _)
theorem IsImage.sec (h : IsImage N U L) (i : Nat) (x : Sec) (hx : L[i]? = some x) (k : Nat) (hk : k < 256 * pgs x.n) : U (place (startU U i) k) = padded x.V x.n k := by
  have hi := (List.getElem?_eq_some_iff.1 hx).1
  have h1 := (h.1.short hx).1
  rw [h.start i (by omega), h.2.2 _ (by have := place_lt (f := startAt L i) hk; have := h.2.1; omega)]
  exact sec_byte L i x k hx hk
theorem IsImage.formed (h : IsImage N U L) : Formed N U where
  size := by rw [h.all]; exact h.2.1
  few := by rw [h.count]; exact h.1.few
  fits := by rw [h.all]; exact h.1.pages
  ends := fun p hp => by
    rw [h.all] at hp
    exact ends_congr (fun k hk => (h.2.2 _ (by have := h.2.1; omega)).symm) (image_ends L p hp)
  number := fun p hp => by
    rw [h.all] at hp
    rw [numberOf_congr (fun k hk => h.2.2 _ (by have := h.2.1; omega))]
    exact image_number L p hp (by have := h.1.pages; omega)
  colo := ⟨h.headIn 0 (by omega), h.headIn 1 (by omega), h.headIn 2 (by omega), h.headIn 3 (by omega), h.headIn 5 (by omega)⟩
  headNought := fun k h1 h2 => by
    rw [h.count] at h1
    rw [h.head k h2]
    unfold padded
    rw [if_neg (by omega)]
  nought := fun i hi k h1 h2 => by
    rw [h.count] at hi
    obtain ⟨x, hx⟩ : ∃ x, L[i]? = some x := ⟨_, List.getElem?_eq_getElem hi⟩
    rw [h.len i x hx] at h1 h2
    rw [h.sec i x hx k h2]
    unfold padded
    rw [if_neg (by omega)]

theorem startU_mono (U : Nat → Nat) : ∀ i s, i < s → startU U i + pgs (lenU U i) ≤ startU U s
  | i, 0, h => by omega
  | i, s + 1, h => by
    by_cases e : i = s
    · subst e; exact Nat.le_refl _
    · have := startU_mono U i s (by omega)
      show _ ≤ startU U s + pgs (lenU U s)
      omega
theorem Formed.image (h : Formed N U) (hU : ∀ k, k < N → U k < 256) : IsImage N U (secsU U) := by
  have hall := secsU_all U
  have hin : ∀ i k, i < U 4 → k < 256 * pgs (lenU U i) → place (startU U i) k < N := fun i k hi hk => by
    have h1 := place_lt (f := startU U i) hk
    have h2 := startU_mono U i (U 4) hi
    have h3 := h.size
    omega
  refine ⟨⟨by rw [secsU_length]; exact h.few, by rw [hall]; exact h.fits, fun s hs k hk => ?_⟩, by rw [hall]; exact h.size, fun k hk => ?_⟩
  · unfold secsU at hs
    obtain ⟨i, hi, rfl⟩ := List.mem_map.1 hs
    have hk2 : k < lenU U i := hk
    exact hU _ (hin i k (List.mem_range.1 hi) (by have := pgs_room (lenU U i); omega))
  · have hsz := h.size
    obtain ⟨p, hp⟩ : ∃ p, k / 264 = p := ⟨_, rfl⟩
    obtain ⟨j, hj⟩ : ∃ j, k % 264 = j := ⟨_, rfl⟩
    have hpa : p < startU U (U 4) := by omega
    have hj4 : j < 264 := by omega
    obtain rfl : k = 264 * p + j := by omega
    have hfits := h.fits
    have hb := page_back (U := fun j => U (264 * p + j)) (fun i hi => hU _ (by omega)) (h.ends p hpa) (by rw [h.number p hpa]; omega) j hj4
    rw [h.number p hpa] at hb
    have hb2 : U (264 * p + j) = pageOf (fun j => U (264 * p + j)) 256 p j := hb
    rw [hb2]
    have hfour := h.few
    rcases body_split (secsU U) p (by rw [hall]; exact hpa) with rfl | ⟨s, x, i, h1, h2, rfl⟩
    · rw [image_at _ 0 j _ (body_head _) hj4]
      refine pageOf_congr 0 (fun q hq => ?_) j
      have hN : 264 ≤ N := by omega
      unfold padded
      rw [if_pos hq, Nat.mul_zero]
      show U (0 + q) = if q < 6 + 4 * (secsU U).length then headV (secsU U) q else 0
      rw [Nat.zero_add]
      rw [secsU_length]
      by_cases hq2 : q < 6 + 4 * U 4
      · rw [if_pos hq2]
        by_cases hq6 : q < 6
        · obtain ⟨c0, c1, c2, c3, c5⟩ := h.colo
          have hc : q = 0 ∨ q = 1 ∨ q = 2 ∨ q = 3 ∨ q = 4 ∨ q = 5 := by omega
          rcases hc with rfl | rfl | rfl | rfl | rfl | rfl
          · exact c0
          · exact c1
          · exact c2
          · exact c3
          · exact (secsU_length U).symm
          · exact c5
        · obtain ⟨i, hi⟩ : ∃ i, (q - 6) / 4 = i := ⟨_, rfl⟩
          obtain ⟨b, hb⟩ : ∃ b, (q - 6) % 4 = b := ⟨_, rfl⟩
          obtain rfl : q = 6 + 4 * i + b := by omega
          have hb4 : b < 4 := by omega
          rw [headV_len _ _ _ hb4, lenAt_at (secsU_at U i (by omega))]
          show _ = byteOf (lenU U i) b
          unfold lenU
          rw [byte_four _ _ _ _ (hU _ (by omega)) (hU _ (by omega)) (hU _ (by omega)) (hU _ (by omega)) b hb4]
          have hc : b = 0 ∨ b = 1 ∨ b = 2 ∨ b = 3 := by omega
          rcases hc with rfl | rfl | rfl | rfl <;> rfl
      · rw [if_neg hq2]
        exact h.headNought q (by omega) hq
    · have hs : s < U 4 := by
        have := (List.getElem?_eq_some_iff.1 h1).1
        rwa [secsU_length] at this
      obtain rfl : secU U s = x := by
        rw [secsU_at U s hs] at h1
        simpa using h1
      rw [image_at _ _ j _ (body_at _ s _ i h1 h2) hj4]
      refine pageOf_congr _ (fun q hq => ?_) j
      rw [part_padded _ _ _ hq, secsU_start U s (by omega)]
      have h2' : i < pgs (lenU U s) := h2
      have hpl : place (startU U s) (256 * i + q) = 264 * (startU U s + i) + q := by unfold place; omega
      show padded _ _ _ = padded (fun k => U (place (startU U s) k)) (lenU U s) (256 * i + q)
      unfold padded
      rw [if_pos hq]
      by_cases hl : 256 * i + q < lenU U s
      · rw [if_pos hl]
        show U (264 * (startU U s + i) + q) = U (place (startU U s) (256 * i + q))
        rw [hpl]
      · rw [if_neg hl]
        show U (264 * (startU U s + i) + q) = 0
        rw [← hpl]
        exact h.nought s hs _ (by omega) (by omega)
end

/-! Sections alike: their images are alike; and one image has sections that are all alike. -/
def SameS (L L' : List Sec) : Prop := L.length = L'.length ∧ ∀ (i : Nat) (x y : Sec), L[i]? = some x → L'[i]? = some y → x.n = y.n ∧ ∀ k, k < x.n → x.V k = y.V k
theorem SameS.refl (L : List Sec) : SameS L L := ⟨rfl, fun i x y h1 h2 => by
  rw [h1] at h2
  cases h2
  exact ⟨rfl, fun _ _ => rfl⟩⟩
theorem SameS.symm {L L' : List Sec} (h : SameS L L') : SameS L' L := ⟨h.1.symm, fun i x y h1 h2 => by
  obtain ⟨e1, e2⟩ := h.2 i y x h2 h1
  exact ⟨e1.symm, fun k hk => (e2 k (by omega)).symm⟩⟩
theorem SameS.trans {A B C : List Sec} (h : SameS A B) (k : SameS B C) : SameS A C := ⟨h.1.trans k.1, fun i x z h1 h3 => by
  have hi := (List.getElem?_eq_some_iff.1 h1).1
  obtain ⟨y, h2⟩ : ∃ y, B[i]? = some y := ⟨_, List.getElem?_eq_getElem (by have := h.1; omega)⟩
  obtain ⟨a1, a2⟩ := h.2 i x y h1 h2
  obtain ⟨b1, b2⟩ := k.2 i y z h2 h3
  exact ⟨a1.trans b1, fun j hj => (a2 j hj).trans (b2 j (by omega))⟩⟩
theorem SameS.ahead {L L' : List Sec} (h : SameS L L') : ∀ s, s ≤ L.length → ahead L s = ahead L' s
  | 0, _ => rfl
  | s + 1, hs => by
    obtain ⟨x, hx⟩ : ∃ x, L[s]? = some x := ⟨_, List.getElem?_eq_getElem (by omega)⟩
    obtain ⟨y, hy⟩ : ∃ y, L'[s]? = some y := ⟨_, List.getElem?_eq_getElem (by have := h.1; omega)⟩
    rw [ahead_succ L s x hx, ahead_succ L' s y hy, h.ahead s (by omega), (h.2 s x y hx hy).1]
theorem SameS.all {L L' : List Sec} (h : SameS L L') : allPages L = allPages L' := by
  unfold allPages startAt
  rw [h.ahead _ (Nat.le_refl _), h.1]
theorem SameS.lenAt {L L' : List Sec} (h : SameS L L') (i : Nat) : lenAt L i = lenAt L' i := by
  by_cases hi : i < L.length
  · obtain ⟨x, hx⟩ : ∃ x, L[i]? = some x := ⟨_, List.getElem?_eq_getElem hi⟩
    obtain ⟨y, hy⟩ : ∃ y, L'[i]? = some y := ⟨_, List.getElem?_eq_getElem (by have := h.1; omega)⟩
    rw [lenAt_at hx, lenAt_at hy, (h.2 i x y hx hy).1]
  · have := h.1
    unfold Go.Proofs.Ythbnojhcmfhnhaa.lenAt
    rw [List.getElem?_eq_none (by omega), List.getElem?_eq_none (by omega)]
theorem SameS.image {L L' : List Sec} (h : SameS L L') (k : Nat) : imageOf L k = imageOf L' k := by
  obtain ⟨p, hp⟩ : ∃ p, k / 264 = p := ⟨_, rfl⟩
  obtain ⟨j, hj⟩ : ∃ j, k % 264 = j := ⟨_, rfl⟩
  have hj4 : j < 264 := by omega
  obtain rfl : k = 264 * p + j := by omega
  by_cases hpa : p < allPages L
  · rcases body_split L p hpa with rfl | ⟨s, x, i, h1, h2, rfl⟩
    · rw [image_at L 0 j _ (body_head L) hj4, image_at L' 0 j _ (body_head L') hj4]
      refine pageOf_congr 0 (fun q _ => ?_) j
      show padded (headV L) (6 + 4 * L.length) q = padded (headV L') (6 + 4 * L'.length) q
      rw [show headV L = headV L' from funext fun z => by unfold headV; rw [h.1, h.lenAt], h.1]
    · have hs := (List.getElem?_eq_some_iff.1 h1).1
      obtain ⟨y, hy⟩ : ∃ y, L'[s]? = some y := ⟨_, List.getElem?_eq_getElem (by have := h.1; omega)⟩
      obtain ⟨e1, e2⟩ := h.2 s x y h1 hy
      rw [image_at L _ j _ (body_at L s x i h1 h2) hj4]
      have hst : startAt L s = startAt L' s := by unfold startAt; rw [h.ahead s (by omega)]
      rw [hst, image_at L' _ j _ (body_at L' s y i hy (by rw [← e1]; exact h2)) hj4]
      refine pageOf_congr _ (fun q hq => ?_) j
      rw [part_padded _ _ _ hq, part_padded _ _ _ hq]
      unfold padded
      rw [← e1]
      split
      · exact e2 _ (by assumption)
      · rfl
  · have hpb := hpa
    rw [h.all] at hpb
    unfold imageOf
    rw [show (264 * p + j) / 264 = p by omega, List.getElem?_eq_none (by rw [body_length]; omega), List.getElem?_eq_none (by rw [body_length]; omega)]
theorem IsImage.same {N : Nat} {U : Nat → Nat} {L L' : List Sec} (h : IsImage N U L) (h' : IsImage N U L') : SameS L L' := ⟨by rw [← h.count, h'.count], fun i x y h1 h2 => by
  have e1 := h.len i x h1
  have e2 := h'.len i y h2
  have en : x.n = y.n := by rw [← e1, e2]
  refine ⟨en, fun k hk => ?_⟩
  have hr := pgs_room x.n
  have a := h.sec i x h1 k (by omega)
  have b := h'.sec i y h2 k (by rw [← en]; omega)
  unfold padded at a b
  rw [if_pos hk] at a
  rw [if_pos (by omega)] at b
  rw [← a, b]⟩
/-- of images alike the sections are alike. -/
theorem image_same {L L' : List Sec} (h : Fits L) (h' : Fits L') (hp : allPages L = allPages L') (hk : ∀ k, k < 264 * allPages L → imageOf L k = imageOf L' k) : SameS L L' :=
  IsImage.same (N := 264 * allPages L) (U := imageOf L) ⟨h, rfl, fun _ _ => rfl⟩ ⟨h', by rw [hp], hk⟩
/-- what has a page with a wrong sum, or another number, is no image. -/
theorem no_image_sum {N : Nat} {U : Nat → Nat} {p : Nat} (hp : p < N / 264) (h : ¬ Pl.Ends (fun j => U (264 * p + j)) 260) : ¬ ∃ L, IsImage N U L := fun ⟨_, hL⟩ => by
  have hF := hL.formed
  exact h (hF.ends p (by have := hF.size; omega))
theorem no_image_number {N : Nat} {U : Nat → Nat} {p : Nat} (hp : p < N / 264) (h : numberOf (fun j => U (264 * p + j)) ≠ p) : ¬ ∃ L, IsImage N U L := fun ⟨_, hL⟩ => by
  have hF := hL.formed
  exact h (hF.number p (by have := hF.size; omega))
theorem no_image_short {N : Nat} {U : Nat → Nat} (h : N % 264 ≠ 0 ∨ N = 0) : ¬ ∃ L, IsImage N U L := fun ⟨_, hL⟩ => by
  have h1 := hL.formed.size
  have h2 := hL.one
  omega
end Go.Proofs.Ythbnojhcmfhnhaa
