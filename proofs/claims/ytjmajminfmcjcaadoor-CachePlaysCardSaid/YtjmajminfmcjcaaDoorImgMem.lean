/- The developers' Image as it lies; the contracts of its methods. -/
import Derived.Test.YtjmajminfmcjcaaDoorImgI
import Derived.Test.YtjmajminfmcjcaaDoorImgSmall
namespace Go.Proofs.YtjmajminfmcjcaaDoor
open Go.RowKit

/-- an image as it lies: its struct in block g, m pages' bytes Y in block gb, k sections, the i-th one from page F i on, G i long; all in blocks from B on. -/
structure Img (B : Nat) (w : World) (g gb cb : Nat) (As : Option Addr) (cs m k : Nat) (Y F G : Nat → Nat) : Prop where
  head : Lies w g 86 [.slice (some ⟨gb, 0, none⟩) (256 * m : Nat) cb, .slice As k cs]
  lo : B ≤ g ∧ B ≤ gb ∧ gb < w.heap.size
  some_ : 1 ≤ m ∧ m ≤ 4096
  room : 256 * m ≤ cb ∧ cb ≤ maxLen
  few : k ≤ 60
  body : ∀ j, j < 256 * m → w.cell? ⟨gb, j, none⟩ = some (.int .u8 ((Y j : Nat) : Int)) ∧ Y j < 256
  spans : ∀ i, i < k → ∃ ad : Addr, As = some ad ∧ B ≤ ad.block ∧ ad.block < w.heap.size ∧ w.cell? (ad.add (i * 2)) = some (.int .i64 ((F i : Nat) : Int)) ∧ w.cell? ⟨(ad.add (i * 2)).block, (ad.add (i * 2)).off + 1, none⟩ = some (.int .i64 ((G i : Nat) : Int))
  fit : ∀ i, i < k → 256 * F i + G i ≤ 256 * m

section
variable {B : Nat} {w w' : World} {g gb cb : Nat} {As : Option Addr} {cs m k : Nat} {Y F G : Nat → Nat}
theorem Img.keep_ (h : Img B w g gb cb As cs m k Y F G) (hs : w.heap.size ≤ w'.heap.size) (hb : ∀ k, B ≤ k → k < w.heap.size → w'.heap[k]? = w.heap[k]?) : Img B w' g gb cb As cs m k Y F G where
  head := h.head.same (hb g h.lo.1 h.head.lt)
  lo := ⟨h.lo.1, h.lo.2.1, Nat.lt_of_lt_of_le h.lo.2.2 hs⟩
  some_ := h.some_
  room := h.room
  few := h.few
  body := fun j hj => ⟨(World.cell?_of_block (a := ⟨gb, j, none⟩) (hb gb h.lo.2.1 h.lo.2.2)).trans (h.body j hj).1, (h.body j hj).2⟩
  spans := fun i hi => by
    obtain ⟨ad, h1, h2, h3, h4, h5⟩ := h.spans i hi
    exact ⟨ad, h1, h2, Nat.lt_of_lt_of_le h3 hs, (World.cell?_of_block (by rw [add_block]; exact hb _ h2 h3)).trans h4, (World.cell?_of_block (by show w'.heap[(ad.add (i * 2)).block]? = w.heap[(ad.add (i * 2)).block]?; rw [add_block]; exact hb _ h2 h3)).trans h5⟩
  fit := h.fit
theorem Img.keep (h : Img B w g gb cb As cs m k Y F G) (hb : Below w.heap.size w w') : Img B w' g gb cb As cs m k Y F G := h.keep_ hb.size fun k _ hk => hb.block k hk

set_option maxRecDepth 100000 in
theorem imgPages_any (h : Img B w g gb cb As cs m k Y F G) :
    Calls Tryd.prog 40 #[.pointer (some ⟨g, 0, none⟩)] w fun e w' => e = .returned (.int .i64 (m : Int)) ∧ w = w' := by
  have h1 := h.head.cell 0
  have hm := h.some_
  have e1 : (((256 * m : Nat) : Int)).tdiv 256 = (m : Int) := by rw [Int.tdiv_eq_ediv_of_nonneg (by omega)]; omega
  have e2 : IntKind.i64.wrap (m : Int) = (m : Int) := IntWalk.i64_in _ (by omega)
  obtain ⟨q, hq⟩ : ∃ q, 256 * m = q := ⟨_, rfl⟩
  rw [hq] at h1 e1
  clear hq
  go_enter Tryd.func40, Tryd.ntmps40
  go_wp2_with fail
  go_ret
  exact ⟨rfl, rfl⟩
set_option maxRecDepth 100000 in
theorem imgPages_nil (w : World) : Calls Tryd.prog 40 #[.pointer none] w fun e w' => e = .returned (.int .i64 0) ∧ w = w' := by
  go_enter Tryd.func40, Tryd.ntmps40
  go_wp2_with fail
  go_ret
  exact ⟨rfl, rfl⟩

set_option maxRecDepth 100000 in
set_option maxHeartbeats 800000 in
/-- a part of the body. -/
theorem part_any (h : Img B w g gb cb As cs m k Y F G) (f s : Nat) (hfs : 256 * f + s ≤ 256 * m) :
    Calls Tryd.prog 41 #[.pointer (some ⟨g, 0, none⟩), .agg #[.int .i64 (f : Int), .int .i64 (s : Int)]] w fun e w' => ∃ (ad : Addr) (c : Nat), e = .returned (.slice (some ad) s c) ∧ (s ≤ c ∧ ad.block = gb) ∧ c ≤ maxLen ∧ Bys w w.heap.size (some ad) s (fun j => Y (256 * f + j)) ∧ Below w.heap.size w w' := by
  have hm := h.some_
  have hr := h.room
  have HB : Hid (∀ j, j < 256 * m → w.cell? ⟨gb, j, none⟩ = some (.int .u8 ((Y j : Nat) : Int)) ∧ Y j < 256) := Lib.hid h.body
  have HG := Lib.hid h.lo.2.2
  have hcm : cb ≤ 9223372036854775807 := by have := hr.2; unfold maxLen at this; omega
  have hb1 : Below w.heap.size w (w.alloc (.cells #[.int .i64 (f : Int), .int .i64 (s : Int)] 92)) := (Below.refl _ _).alloc (Nat.le_refl _) _
  have h1 : ∀ q, ((w.alloc (.cells #[.int .i64 (f : Int), .int .i64 (s : Int)] 92)).drewN q).cell? ⟨g, 0, none⟩ = some (.slice (some ⟨gb, 0, none⟩) (256 * m : Nat) cb) := fun q => (((h.head.alloc (.cells #[.int .i64 (f : Int), .int .i64 (s : Int)] 92)).drewN q).cell 0)
  obtain ⟨M, hM⟩ : ∃ M, 256 * m = M := ⟨_, rfl⟩
  obtain ⟨K, hK⟩ : ∃ K, 256 * f = K := ⟨_, rfl⟩
  have e1 : IntKind.i64.wrap ((f : Int) * 256) = (K : Int) := by rw [IntWalk.i64_in _ (by omega)]; omega
  rw [hM] at h1 hfs HB hr
  rw [hK] at hfs ⊢
  have hlo := lies_new w 92 [.int .i64 (f : Int), .int .i64 (s : Int)]
  have f0 : ∀ q, ((w.alloc (.cells #[.int .i64 (f : Int), .int .i64 (s : Int)] 92)).drewN q).cell? ⟨w.heap.size, 0, none⟩ = some (.int .i64 (f : Int)) := fun q => (hlo.drewN q).cell 0
  have f1 : ∀ q, ((w.alloc (.cells #[.int .i64 (f : Int), .int .i64 (s : Int)] 92)).drewN q).cell? ⟨w.heap.size, 1, none⟩ = some (.int .i64 (s : Int)) := fun q => (hlo.drewN q).cell 1
  have k1 : K ≤ M := by omega
  have k2 : s ≤ cb - K := by omega
  have k3 : cb - K ≤ maxLen := by omega
  have k4 : (K : Int) ≤ (M : Int) := by omega
  have k5 : (s : Int) ≤ ((cb - K : Nat) : Int) := by omega
  clear hlo h hM hK
  by_cases hcK : cb = K
  · have HS0 := Lib.hid (show s = 0 by omega)
    go_enter Tryd.func41, Tryd.ntmps41
    go_wp2_with fail
    go_quiet (fail)
    go_wp2_with fail
    go_ret
    exact ⟨⟨gb, 0, none⟩, 0, rfl, ⟨by have := HS0.out; omega, rfl⟩, by unfold maxLen; omega, fun j hj => by have := HS0.out; omega, below_drewN' hb1 _⟩
  · go_enter Tryd.func41, Tryd.ntmps41
    go_wp2_with fail
    go_quiet (fail)
    go_wp2_with fail
    go_ret
    exact ⟨⟨gb, K, none⟩, cb - K, rfl, ⟨k2, rfl⟩, k3, fun j hj => ⟨⟨gb, K, none⟩, rfl, HG.out, by rw [Addr.add_mid]; exact (HB.out (K + j) (by omega)).1, (HB.out (K + j) (by omega)).2⟩, below_drewN' hb1 _⟩

end

section
variable {B : Nat} {w w' : World} {g gb cb : Nat} {As : Option Addr} {cs m k : Nat} {Y F G : Nat → Nat}
set_option maxRecDepth 100000 in
theorem page_in (h : Img B w g gb cb As cs m k Y F G) (i : Nat) (hi : i < m) :
    Calls Tryd.prog 24 #[.pointer (some ⟨g, 0, none⟩), .int .i64 (i : Int)] w fun e w' => ∃ u, e = .returned (.tuple #[u, .int .i64 0]) ∧ w'.ownsRow w.heap.size 5 1 u 256 (ycells (fun j => Y (256 * i + j)) 256) ∧ Below w.heap.size w w' := by
  have HS := Lib.hid (imgPages_any h)
  have hm := h.some_
  have HP := Lib.hid (part_any h i 256 (by omega))
  have hd : decide ((m : Int) ≤ (i : Int)) = false := by simp; omega
  have hd2 : decide ((i : Int) < 0) = false := by simp
  clear h hm
  go_enter Tryd.func24, Tryd.ntmps24
  go_wp2_with fail
  refine HS.out.mono ?_
  rintro e w1 ⟨rfl, rfl⟩
  go_wp2_with fail
  refine HP.out.mono ?_
  rintro e w2 ⟨ad, c, rfl, _, _, ho, hb2⟩
  have HC := Lib.hid (clone_any ad 256 c _ w2 (by decide) ((ho.below hb2).mono_ hb2.size))
  clear ho
  go_wp2_with fail
  refine HC.out.mono ?_
  rintro e w3 ⟨u, rfl, hu, hb3⟩
  go_wp2_with fail
  go_ret2
  exact ⟨u, rfl, ownsRow_lower hu hb2.size, hb2.trans (hb3.mono hb2.size)⟩
set_option maxRecDepth 100000 in
theorem page_out (h : Img B w g gb cb As cs m k Y F G) (s : Int) (hs : ¬ (0 ≤ s ∧ s < (m : Int))) :
    Calls Tryd.prog 24 #[.pointer (some ⟨g, 0, none⟩), .int .i64 s] w fun e w' => e = .returned (.tuple #[.slice none 0 0, .int .i64 222]) ∧ w = w' := by
  have HS := Lib.hid (imgPages_any h)
  clear h
  by_cases hn : s < 0
  · have hd2 : decide (s < 0) = true := by simpa using hn
    go_enter Tryd.func24, Tryd.ntmps24
    go_wp2_with fail
    go_ret2
    exact ⟨rfl, rfl⟩
  · have hd2 : decide (s < 0) = false := by simpa using hn
    have hd : decide ((m : Int) ≤ s) = true := by simp; omega
    go_enter Tryd.func24, Tryd.ntmps24
    go_wp2_with fail
    refine HS.out.mono ?_
    rintro e w1 ⟨rfl, rfl⟩
    go_wp2_with fail
    go_ret2
    exact ⟨rfl, rfl⟩
theorem page_nil (s : Int) (w : World) : Calls Tryd.prog 24 #[.pointer none, .int .i64 s] w fun e w' => e = .returned (.tuple #[.slice none 0 0, .int .i64 1]) ∧ Below w.heap.size w w' := by
  go_enter Tryd.func24, Tryd.ntmps24
  go_wp2_with fail
  go_ret2
  exact ⟨rfl, Below.refl _ _⟩
end
end Go.Proofs.YtjmajminfmcjcaaDoor
