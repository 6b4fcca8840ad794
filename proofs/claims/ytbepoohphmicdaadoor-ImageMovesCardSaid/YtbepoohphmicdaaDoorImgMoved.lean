/- Pages of an image gone, doubled, exchanged: no image. (Plain, over XImgMath and XImgOpens' overTo.) -/
import Derived.Test.YtbepoohphmicdaaDoorImgOpens
namespace Go.Proofs.YtbepoohphmicdaaDoor

theorem startU_congr {U V : Nat → Nat} (h : ∀ k, k < 256 → U k = V k) : ∀ i, i ≤ 60 → startU U i = startU V i
  | 0, _ => rfl
  | i + 1, hi => by
    show startU U i + pgs (lenU U i) = startU V i + pgs (lenU V i)
    rw [startU_congr h i (by omega)]
    unfold lenU
    rw [h (6 + 4 * i) (by omega), h (6 + 4 * i + 1) (by omega), h (6 + 4 * i + 2) (by omega), h (6 + 4 * i + 3) (by omega)]
section
variable {S : List Sec} {M x y : Nat}
/-- an image without its page x. -/
def goneOf (S : List Sec) (x : Nat) : Nat → Nat := fun k => if k < 264 * x then imageOf S k else imageOf S (264 * x + 264 + (k - 264 * x))
theorem gone_no (hf : Fits S) (hM : allPages S = M) (hx : x < M) : ¬ ∃ L, IsImage (264 * (M - 1)) (goneOf S x) L := by
  by_cases h1 : M = 1
  · exact no_image_short (.inr (by omega))
  · by_cases h2 : x < M - 1
    · refine no_image_number (p := x) (by omega) ?_
      have e : numberOf (fun j => goneOf S x (264 * x + j)) = x + 1 := by
        rw [numberOf_congr (V := fun j => goneOf S x (264 * x + j)) (U := fun j => imageOf S (264 * (x + 1) + j)) (fun j hj => by
          show goneOf S x (264 * x + j) = _
          unfold goneOf
          rw [if_neg (by omega), show 264 * x + 264 + (264 * x + j - 264 * x) = 264 * (x + 1) + j by omega])]
        exact image_number S (x + 1) (by omega) (by have := hf.pages; omega)
      rw [e]
      omega
    · rintro ⟨L, hL⟩
      have hI : IsImage (264 * M) (imageOf S) S := ⟨hf, by rw [hM], fun _ _ => rfl⟩
      have hF := hL.formed
      have hG := hI.formed
      have hc : ∀ k, k < 256 → goneOf S x k = imageOf S k := fun k hk => by
        unfold goneOf
        rw [if_pos (by omega)]
      have e1 := startU_congr hc (goneOf S x 4) hF.few
      have e2 := hF.size
      have e3 := hG.size
      rw [hc 4 (by decide)] at e1 e2
      omega
/-- an image with its page x once more behind it. -/
def moreOf (S : List Sec) (M x : Nat) : Nat → Nat := fun k => if k < 264 * M then imageOf S k else imageOf S (264 * x + (k - 264 * M))
theorem more_no (hf : Fits S) (hM : allPages S = M) (hx : x < M) : ¬ ∃ L, IsImage (264 * (M + 1)) (moreOf S M x) L := by
  refine no_image_number (p := M) (by omega) ?_
  have e : numberOf (fun j => moreOf S M x (264 * M + j)) = x := by
    rw [numberOf_congr (V := fun j => moreOf S M x (264 * M + j)) (U := fun j => imageOf S (264 * x + j)) (fun j hj => by
      show moreOf S M x (264 * M + j) = _
      unfold moreOf
      rw [if_neg (by omega), show 264 * x + (264 * M + j - 264 * M) = 264 * x + j by omega])]
    exact image_number S x (by omega) (by have := hf.pages; omega)
  rw [e]
  omega
/-- an image with two pages in one another's place. -/
def swapOf (S : List Sec) (x y : Nat) : Nat → Nat := overTo (overTo (imageOf S) (264 * x) 264 (fun k => imageOf S (264 * y + k))) (264 * y) 264 (fun k => imageOf S (264 * x + k))
theorem swap_no (hf : Fits S) (hM : allPages S = M) (hx : x < M) (hy : y < M) (hxy : x ≠ y) : ¬ ∃ L, IsImage (264 * M) (swapOf S x y) L := by
  refine no_image_number (p := x) (by omega) ?_
  have e : numberOf (fun j => swapOf S x y (264 * x + j)) = y := by
    rw [numberOf_congr (V := fun j => swapOf S x y (264 * x + j)) (U := fun j => imageOf S (264 * y + j)) (fun j hj => by
      show swapOf S x y (264 * x + j) = _
      unfold swapOf overTo
      rw [if_neg (by omega), if_pos (by omega), show 264 * x + j - 264 * x = j by omega])]
    exact image_number S y (by omega) (by have := hf.pages; omega)
  rw [e]
  omega
end
end Go.Proofs.YtbepoohphmicdaaDoor
