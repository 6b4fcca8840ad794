/- The developers' Image as it lies; the contracts of its methods. -/
import Derived.Test.YtbepoohphmicdaaDoorImgI
import Derived.Test.YtbepoohphmicdaaDoorImgSmall
namespace Go.Proofs.YtbepoohphmicdaaDoor
open Go.RowKit

/-- an image as it lies: its struct in block g, m pages' bytes Y in block gb, k sections, the i-th one from page F i on, G i long; all in blocks from B on. -/
structure Img (B : Nat) (w : World) (g gb cb : Nat) (As : Option Addr) (cs m k : Nat) (Y F G : Nat → Nat) : Prop where
  head : Lies w g 60 [.slice (some ⟨gb, 0, none⟩) (256 * m : Nat) cb, .slice As k cs]
  lo : B ≤ g ∧ B ≤ gb ∧ gb < w.heap.size
  some_ : 1 ≤ m ∧ m ≤ 4096
  room : 256 * m ≤ cb ∧ cb ≤ maxLen
  few : k ≤ 60
  body : ∀ j, j < 256 * m → w.cell? ⟨gb, j, none⟩ = some (.int .u8 ((Y j : Nat) : Int)) ∧ Y j < 256
  spans : ∀ i, i < k → ∃ ad : Addr, As = some ad ∧ B ≤ ad.block ∧ ad.block < w.heap.size ∧ w.cell? (ad.add (i * 2)) = some (.int .i64 ((F i : Nat) : Int)) ∧ w.cell? ⟨(ad.add (i * 2)).block, (ad.add (i * 2)).off + 1, none⟩ = some (.int .i64 ((G i : Nat) : Int))
  fit : ∀ i, i < k → 256 * F i + G i ≤ 256 * m

section
variable {B : Nat} {w w' : World} {g gb cb : Nat} {As : Option Addr} {cs m k : Nat} {Y F G : Nat → Nat}
theorem Img.keep_ (h : Img B w g gb cb As cs m k Y F G) (hs : w.heap.size ≤ w'.heap.size) (hb : ∀ k, B ≤ k → k < w.heap.size → w'.heap[k]? = w.heap[k]?) : Img B w' g gb cb As cs m k Y F G where
  head := h.head.same (hb g h.lo.1 h.head.lt)
  lo := ⟨h.lo.1, h.lo.2.1, Nat.lt_of_lt_of_le h.lo.2.2 hs⟩
  some_ := h.some_
  room := h.room
  few := h.few
  body := fun j hj => ⟨(World.cell?_of_block (a := ⟨gb, j, none⟩) (hb gb h.lo.2.1 h.lo.2.2)).trans (h.body j hj).1, (h.body j hj).2⟩
  spans := fun i hi => by
    obtain ⟨ad, h1, h2, h3, h4, h5⟩ := h.spans i hi
    exact ⟨ad, h1, h2, Nat.lt_of_lt_of_le h3 hs, (World.cell?_of_block (by rw [add_block]; exact hb _ h2 h3)).trans h4, (World.cell?_of_block (by show w'.heap[(ad.add (i * 2)).block]? = w.heap[(ad.add (i * 2)).block]?; rw [add_block]; exact hb _ h2 h3)).trans h5⟩
  fit := h.fit
theorem Img.keep (h : Img B w g gb cb As cs m k Y F G) (hb : Below w.heap.size w w') : Img B w' g gb cb As cs m k Y F G := h.keep_ hb.size fun k _ hk => hb.block k hk

set_option maxRecDepth 100000 in
theorem imgSections_any (h : Img B w g gb cb As cs m k Y F G) :
    Calls Tryd.prog 22 #[.pointer (some ⟨g, 0, none⟩)] w fun e w' => e = .returned (.int .i64 (k : Int)) ∧ w = w' := by
  have h1 := h.head.cell 1
  go_enter Tryd.func22, Tryd.ntmps22
  go_wp2_with fail
  go_ret
  exact ⟨rfl, rfl⟩
set_option maxRecDepth 100000 in
theorem imgSections_nil (w : World) : Calls Tryd.prog 22 #[.pointer none] w fun e w' => e = .returned (.int .i64 0) ∧ w = w' := by
  go_enter Tryd.func22, Tryd.ntmps22
  go_wp2_with fail
  go_ret
  exact ⟨rfl, rfl⟩
set_option maxRecDepth 100000 in
theorem imgPages_any (h : Img B w g gb cb As cs m k Y F G) :
    Calls Tryd.prog 15 #[.pointer (some ⟨g, 0, none⟩)] w fun e w' => e = .returned (.int .i64 (m : Int)) ∧ w = w' := by
  have h1 := h.head.cell 0
  have hm := h.some_
  have e1 : (((256 * m : Nat) : Int)).tdiv 256 = (m : Int) := by rw [Int.tdiv_eq_ediv_of_nonneg (by omega)]; omega
  have e2 : IntKind.i64.wrap (m : Int) = (m : Int) := IntWalk.i64_in _ (by omega)
  obtain ⟨q, hq⟩ : ∃ q, 256 * m = q := ⟨_, rfl⟩
  rw [hq] at h1 e1
  clear hq
  go_enter Tryd.func15, Tryd.ntmps15
  go_wp2_with fail
  go_ret
  exact ⟨rfl, rfl⟩
set_option maxRecDepth 100000 in
theorem imgPages_nil (w : World) : Calls Tryd.prog 15 #[.pointer none] w fun e w' => e = .returned (.int .i64 0) ∧ w = w' := by
  go_enter Tryd.func15, Tryd.ntmps15
  go_wp2_with fail
  go_ret
  exact ⟨rfl, rfl⟩

set_option maxRecDepth 100000 in
set_option maxHeartbeats 800000 in
/-- a part of the body. -/
theorem part_any (h : Img B w g gb cb As cs m k Y F G) (f s : Nat) (hfs : 256 * f + s ≤ 256 * m) :
    Calls Tryd.prog 32 #[.pointer (some ⟨g, 0, none⟩), .agg #[.int .i64 (f : Int), .int .i64 (s : Int)]] w fun e w' => ∃ (ad : Addr) (c : Nat), e = .returned (.slice (some ad) s c) ∧ (s ≤ c ∧ ad.block = gb) ∧ c ≤ maxLen ∧ Bys w w.heap.size (some ad) s (fun j => Y (256 * f + j)) ∧ Below w.heap.size w w' := by
  have hm := h.some_
  have hr := h.room
  have HB : Hid (∀ j, j < 256 * m → w.cell? ⟨gb, j, none⟩ = some (.int .u8 ((Y j : Nat) : Int)) ∧ Y j < 256) := Lib.hid h.body
  have HG := Lib.hid h.lo.2.2
  have hcm : cb ≤ 9223372036854775807 := by have := hr.2; unfold maxLen at this; omega
  have hb1 : Below w.heap.size w (w.alloc (.cells #[.int .i64 (f : Int), .int .i64 (s : Int)] 65)) := (Below.refl _ _).alloc (Nat.le_refl _) _
  have h1 : ∀ q, ((w.alloc (.cells #[.int .i64 (f : Int), .int .i64 (s : Int)] 65)).drewN q).cell? ⟨g, 0, none⟩ = some (.slice (some ⟨gb, 0, none⟩) (256 * m : Nat) cb) := fun q => (((h.head.alloc (.cells #[.int .i64 (f : Int), .int .i64 (s : Int)] 65)).drewN q).cell 0)
  obtain ⟨M, hM⟩ : ∃ M, 256 * m = M := ⟨_, rfl⟩
  obtain ⟨K, hK⟩ : ∃ K, 256 * f = K := ⟨_, rfl⟩
  have e1 : IntKind.i64.wrap ((f : Int) * 256) = (K : Int) := by rw [IntWalk.i64_in _ (by omega)]; omega
  rw [hM] at h1 hfs HB hr
  rw [hK] at hfs ⊢
  have hlo := lies_new w 65 [.int .i64 (f : Int), .int .i64 (s : Int)]
  have f0 : ∀ q, ((w.alloc (.cells #[.int .i64 (f : Int), .int .i64 (s : Int)] 65)).drewN q).cell? ⟨w.heap.size, 0, none⟩ = some (.int .i64 (f : Int)) := fun q => (hlo.drewN q).cell 0
  have f1 : ∀ q, ((w.alloc (.cells #[.int .i64 (f : Int), .int .i64 (s : Int)] 65)).drewN q).cell? ⟨w.heap.size, 1, none⟩ = some (.int .i64 (s : Int)) := fun q => (hlo.drewN q).cell 1
  have k1 : K ≤ M := by omega
  have k2 : s ≤ cb - K := by omega
  have k3 : cb - K ≤ maxLen := by omega
  have k4 : (K : Int) ≤ (M : Int) := by omega
  have k5 : (s : Int) ≤ ((cb - K : Nat) : Int) := by omega
  clear hlo h hM hK
  by_cases hcK : cb = K
  · have HS0 := Lib.hid (show s = 0 by omega)
    go_enter Tryd.func32, Tryd.ntmps32
    go_wp2_with fail
    go_quiet (fail)
    go_wp2_with fail
    go_ret
    exact ⟨⟨gb, 0, none⟩, 0, rfl, ⟨by have := HS0.out; omega, rfl⟩, by unfold maxLen; omega, fun j hj => by have := HS0.out; omega, below_drewN' hb1 _⟩
  · go_enter Tryd.func32, Tryd.ntmps32
    go_wp2_with fail
    go_quiet (fail)
    go_wp2_with fail
    go_ret
    exact ⟨⟨gb, K, none⟩, cb - K, rfl, ⟨k2, rfl⟩, k3, fun j hj => ⟨⟨gb, K, none⟩, rfl, HG.out, by rw [Addr.add_mid]; exact (HB.out (K + j) (by omega)).1, (HB.out (K + j) (by omega)).2⟩, below_drewN' hb1 _⟩

set_option maxRecDepth 100000 in
/-- a section's span. -/
theorem span_in (h : Img B w g gb cb As cs m k Y F G) (i : Nat) (hi : i < k) :
    Calls Tryd.prog 33 #[.pointer (some ⟨g, 0, none⟩), .int .i64 (i : Int)] w fun e w' => e = .returned (.agg #[.int .i64 ((F i : Nat) : Int), .int .i64 ((G i : Nat) : Int)]) ∧ Below w.heap.size w w' := by
  have hb1 : Below w.heap.size w (w.alloc (.cells #[.int .i64 0, .int .i64 0] 65)) := (Below.refl _ _).alloc (Nat.le_refl _) _
  have H1 := h.keep hb1
  have HS := Lib.hid (imgSections_any H1)
  have h1 := H1.head.cell 1
  obtain ⟨ad, rfl, _, hlt, hc0, hc1⟩ := H1.spans i hi
  have hlo := lies_new w 65 [.int .i64 0, .int .i64 0]
  have d0 := hlo.cell 0
  have d1 := hlo.cell 1
  have e0 := hlo.free 0
  have e1 := hlo.free 1
  have hif := h.few
  have hik : (i : Int) < (k : Int) := by omega
  have hd : decide ((k : Int) ≤ (i : Int)) = false := by simp; omega
  have hd2 : decide ((i : Int) < 0) = false := by simp
  clear H1 h hlo
  go_enter Tryd.func33, Tryd.ntmps33
  go_wp2_with fail
  refine HS.out.mono ?_
  rintro e w' ⟨rfl, rfl⟩
  go_wp2_with fail
  have hl2 := lies_new w 65 [.int .i64 ((F i : Nat) : Int), .int .i64 ((G i : Nat) : Int)]
  have g0 := hl2.cell 0
  have g1 := hl2.cell 1
  exact bodyPost_ret (v := .agg #[.int .i64 ((F i : Nat) : Int), .int .i64 ((G i : Nat) : Int)]) (by simp [results, Tryd.results33, go_sem, g0, g1]) rfl ⟨rfl, (Below.refl _ _).alloc (Nat.le_refl _) _⟩

set_option maxRecDepth 100000 in
theorem span_out (h : Img B w g gb cb As cs m k Y F G) (s : Int) (hs : ¬ (0 ≤ s ∧ s < (k : Int))) :
    Calls Tryd.prog 33 #[.pointer (some ⟨g, 0, none⟩), .int .i64 s] w fun e w' => e = .returned (.agg #[.int .i64 0, .int .i64 0]) ∧ Below w.heap.size w w' := by
  have hb1 : Below w.heap.size w (w.alloc (.cells #[.int .i64 0, .int .i64 0] 65)) := (Below.refl _ _).alloc (Nat.le_refl _) _
  have HS := Lib.hid (imgSections_any (h.keep hb1))
  have hlo := lies_new w 65 [.int .i64 0, .int .i64 0]
  have d0 := hlo.cell 0
  have d1 := hlo.cell 1
  have e0 := hlo.free 0
  have e1 := hlo.free 1
  by_cases hn : s < 0
  · have hd2 : decide (s < 0) = true := by simpa using hn
    go_enter Tryd.func33, Tryd.ntmps33
    go_wp2_with fail
    exact bodyPost_ret (v := .agg #[.int .i64 0, .int .i64 0]) (by simp [results, Tryd.results33, go_sem, d0, d1]) rfl ⟨rfl, hb1⟩
  · have hd2 : decide (s < 0) = false := by simpa using hn
    have hd : decide ((k : Int) ≤ s) = true := by simp; omega
    go_enter Tryd.func33, Tryd.ntmps33
    go_wp2_with fail
    refine HS.out.mono ?_
    rintro e w' ⟨rfl, rfl⟩
    go_wp2_with fail
    exact bodyPost_ret (v := .agg #[.int .i64 0, .int .i64 0]) (by simp [results, Tryd.results33, go_sem, d0, d1]) rfl ⟨rfl, hb1⟩
end

set_option maxRecDepth 100000 in
theorem span_nil (w : World) (s : Int) :
    Calls Tryd.prog 33 #[.pointer none, .int .i64 s] w fun e w' => e = .returned (.agg #[.int .i64 0, .int .i64 0]) ∧ Below w.heap.size w w' := by
  have hb1 : Below w.heap.size w (w.alloc (.cells #[.int .i64 0, .int .i64 0] 65)) := (Below.refl _ _).alloc (Nat.le_refl _) _
  have HS := Lib.hid (imgSections_nil (w.alloc (.cells #[.int .i64 0, .int .i64 0] 65)))
  have hlo := lies_new w 65 [.int .i64 0, .int .i64 0]
  have d0 := hlo.cell 0
  have d1 := hlo.cell 1
  have e0 := hlo.free 0
  have e1 := hlo.free 1
  by_cases hn : s < 0
  · have hd2 : decide (s < 0) = true := by simpa using hn
    go_enter Tryd.func33, Tryd.ntmps33
    go_wp2_with fail
    exact bodyPost_ret (v := .agg #[.int .i64 0, .int .i64 0]) (by simp [results, Tryd.results33, go_sem, d0, d1]) rfl ⟨rfl, hb1⟩
  · have hd2 : decide (s < 0) = false := by simpa using hn
    have hd : decide ((0 : Int) ≤ s) = true := by simp; omega
    go_enter Tryd.func33, Tryd.ntmps33
    go_wp2_with fail
    refine HS.out.mono ?_
    rintro e w' ⟨rfl, rfl⟩
    go_wp2_with fail
    exact bodyPost_ret (v := .agg #[.int .i64 0, .int .i64 0]) (by simp [results, Tryd.results33, go_sem, d0, d1]) rfl ⟨rfl, hb1⟩

/-- what Size and First say of a span. -/
theorem size_of {v : Value} {s a b : Int} {w : World} (h : Calls Tryd.prog 33 #[v, .int .i64 s] w fun e w' => e = .returned (.agg #[.int .i64 a, .int .i64 b]) ∧ Below w.heap.size w w') :
    Calls Tryd.prog 18 #[v, .int .i64 s] w fun e w' => e = .returned (.int .i64 b) ∧ Below w.heap.size w w' := by
  have H := Lib.hid h
  have hfd : ∀ W : World, (Instr.field 65 (.agg #[.int .i64 a, .int .i64 b]) 1).run Tryd.prog W = .ok (.int .i64 b) W := fun _ => by kernel_rfl
  clear h
  go_enter Tryd.func18, Tryd.ntmps18
  go_wp2_with fail
  refine H.out.mono ?_
  rintro e w' ⟨rfl, hb⟩
  go_wp2_with fail
  go_ret
  exact ⟨rfl, hb⟩
theorem first_of {v : Value} {s a b : Int} {w : World} (h : Calls Tryd.prog 33 #[v, .int .i64 s] w fun e w' => e = .returned (.agg #[.int .i64 a, .int .i64 b]) ∧ Below w.heap.size w w') :
    Calls Tryd.prog 17 #[v, .int .i64 s] w fun e w' => e = .returned (.int .i64 a) ∧ Below w.heap.size w w' := by
  have H := Lib.hid h
  have hfd : ∀ W : World, (Instr.field 65 (.agg #[.int .i64 a, .int .i64 b]) 0).run Tryd.prog W = .ok (.int .i64 a) W := fun _ => by kernel_rfl
  clear h
  go_enter Tryd.func17, Tryd.ntmps17
  go_wp2_with fail
  refine H.out.mono ?_
  rintro e w' ⟨rfl, hb⟩
  go_wp2_with fail
  go_ret
  exact ⟨rfl, hb⟩

section
variable {B : Nat} {w w' : World} {g gb cb : Nat} {As : Option Addr} {cs m k : Nat} {Y F G : Nat → Nat}
set_option maxRecDepth 100000 in
theorem section_in (h : Img B w g gb cb As cs m k Y F G) (i : Nat) (hi : i < k) :
    Calls Tryd.prog 19 #[.pointer (some ⟨g, 0, none⟩), .int .i64 (i : Int)] w fun e w' => ∃ u, e = .returned u ∧ w'.ownsRow w.heap.size 5 1 u (G i) (ycells (fun j => Y (256 * F i + j)) (G i)) ∧ Below w.heap.size w w' := by
  have HS := Lib.hid (span_in h i hi)
  have HI := Lib.hid h
  have hf := h.fit i hi
  have hm := h.some_
  have HP := fun (W : World) (hb : Below w.heap.size w W) => Lib.hid (part_any (h.keep hb) (F i) (G i) hf)
  have HG : Hid (G i ≤ 1048576) := Lib.hid (by omega)
  clear h hf hm
  go_enter Tryd.func19, Tryd.ntmps19
  go_wp2_with fail
  refine HS.out.mono ?_
  rintro e w1 ⟨rfl, hb1⟩
  have HP1 := HP w1 hb1
  clear HP HS
  go_wp2_with fail
  refine HP1.out.mono ?_
  rintro e w2 ⟨ad, c, rfl, _, _, ho, hb2⟩
  have HC := Lib.hid (clone_any ad (G i) c _ w2 HG.out ((ho.below hb2).mono_ hb2.size))
  have hB2 := hb1.trans (hb2.mono hb1.size)
  clear ho
  go_wp2_with fail
  refine HC.out.mono ?_
  rintro e w3 ⟨u, rfl, hu, hb3⟩
  go_wp2_with fail
  go_ret
  exact ⟨u, rfl, ownsRow_lower hu hB2.size, hB2.trans (hb3.mono hB2.size)⟩

set_option maxRecDepth 100000 in
theorem page_in (h : Img B w g gb cb As cs m k Y F G) (i : Nat) (hi : i < m) :
    Calls Tryd.prog 16 #[.pointer (some ⟨g, 0, none⟩), .int .i64 (i : Int)] w fun e w' => ∃ u, e = .returned (.tuple #[u, .int .i64 0]) ∧ w'.ownsRow w.heap.size 5 1 u 256 (ycells (fun j => Y (256 * i + j)) 256) ∧ Below w.heap.size w w' := by
  have HS := Lib.hid (imgPages_any h)
  have hm := h.some_
  have HP := Lib.hid (part_any h i 256 (by omega))
  have hd : decide ((m : Int) ≤ (i : Int)) = false := by simp; omega
  have hd2 : decide ((i : Int) < 0) = false := by simp
  clear h hm
  go_enter Tryd.func16, Tryd.ntmps16
  go_wp2_with fail
  refine HS.out.mono ?_
  rintro e w1 ⟨rfl, rfl⟩
  go_wp2_with fail
  refine HP.out.mono ?_
  rintro e w2 ⟨ad, c, rfl, _, _, ho, hb2⟩
  have HC := Lib.hid (clone_any ad 256 c _ w2 (by decide) ((ho.below hb2).mono_ hb2.size))
  clear ho
  go_wp2_with fail
  refine HC.out.mono ?_
  rintro e w3 ⟨u, rfl, hu, hb3⟩
  go_wp2_with fail
  go_ret2
  exact ⟨u, rfl, ownsRow_lower hu hb2.size, hb2.trans (hb3.mono hb2.size)⟩
set_option maxRecDepth 100000 in
theorem page_out (h : Img B w g gb cb As cs m k Y F G) (s : Int) (hs : ¬ (0 ≤ s ∧ s < (m : Int))) :
    Calls Tryd.prog 16 #[.pointer (some ⟨g, 0, none⟩), .int .i64 s] w fun e w' => e = .returned (.tuple #[.slice none 0 0, .int .i64 222]) ∧ w = w' := by
  have HS := Lib.hid (imgPages_any h)
  clear h
  by_cases hn : s < 0
  · have hd2 : decide (s < 0) = true := by simpa using hn
    go_enter Tryd.func16, Tryd.ntmps16
    go_wp2_with fail
    go_ret2
    exact ⟨rfl, rfl⟩
  · have hd2 : decide (s < 0) = false := by simpa using hn
    have hd : decide ((m : Int) ≤ s) = true := by simp; omega
    go_enter Tryd.func16, Tryd.ntmps16
    go_wp2_with fail
    refine HS.out.mono ?_
    rintro e w1 ⟨rfl, rfl⟩
    go_wp2_with fail
    go_ret2
    exact ⟨rfl, rfl⟩
set_option maxRecDepth 100000 in
/-- of a section that isn't there: no bytes. -/
theorem section_out (h : Img B w g gb cb As cs m k Y F G) (s : Int) (hs : ¬ (0 ≤ s ∧ s < (k : Int))) :
    Calls Tryd.prog 19 #[.pointer (some ⟨g, 0, none⟩), .int .i64 s] w fun e w' => ∃ (A : Option Addr) (c : Nat), e = .returned (.slice A 0 c) ∧ Below w.heap.size w w' := by
  have HS := Lib.hid (span_out h s hs)
  have hm := h.some_
  have HP := fun (W : World) (hb : Below w.heap.size w W) => Lib.hid (part_any (h.keep hb) 0 0 (by omega))
  clear h hm
  go_enter Tryd.func19, Tryd.ntmps19
  go_wp2_with fail
  refine HS.out.mono ?_
  rintro e w1 ⟨rfl, hb1⟩
  have HP1 := HP w1 hb1
  clear HP HS
  go_wp2_with fail
  refine HP1.out.mono ?_
  rintro e w2 ⟨ad, c, rfl, _, _, ho, hb2⟩
  have HC := Lib.hid (clone_any ad 0 c _ w2 (by decide) ((ho.below hb2).mono_ hb2.size))
  have hB2 := hb1.trans (hb2.mono hb1.size)
  clear ho
  go_wp2_with fail
  refine HC.out.mono ?_
  rintro e w3 ⟨u, rfl, hu, hb3⟩
  obtain ⟨A, c, rfl, _, _, _⟩ := row_bys hu (fun j hj => absurd hj (Nat.not_lt_zero j))
  go_wp2_with fail
  go_ret
  exact ⟨A, c, rfl, hB2.trans (hb3.mono hB2.size)⟩
theorem page_nil (s : Int) (w : World) : Calls Tryd.prog 16 #[.pointer none, .int .i64 s] w fun e w' => e = .returned (.tuple #[.slice none 0 0, .int .i64 1]) ∧ Below w.heap.size w w' := by
  go_enter Tryd.func16, Tryd.ntmps16
  go_wp2_with fail
  go_ret2
  exact ⟨rfl, Below.refl _ _⟩
theorem section_nil (s : Int) (w : World) : Calls Tryd.prog 19 #[.pointer none, .int .i64 s] w fun e w' => e = .returned (.slice none 0 0) ∧ Below w.heap.size w w' := by
  go_enter Tryd.func19, Tryd.ntmps19
  go_wp2_with fail
  go_ret
  exact ⟨rfl, Below.refl _ _⟩
end
end Go.Proofs.YtbepoohphmicdaaDoor
