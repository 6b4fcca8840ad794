/- The contract of image.spansOf: where the sections stand that a head names. -/
import Derived.Test.YtjmajminfmcjcaaDoorImgJoin
namespace Go.Proofs.YtjmajminfmcjcaaDoor
open Go.RowKit Go.Shelf

attribute [local go_sem] Oper.semAt_some

theorem info_span : (Tryd.prog.info? 92).map (fun i => (i.zero, i.size, i.bytes)) = some (some (.agg #[.int .i64 0, .int .i64 0]), 2, 16) := by kernel_rfl

/-- spans as cells. -/
def scells (Y : Nat → Nat) (n : Nat) : List Value := (List.range n).flatMap fun i => [.int .i64 ((startU Y i : Nat) : Int), .int .i64 ((lenU Y i : Nat) : Int)]
theorem scells_snoc (Y : Nat → Nat) (n : Nat) : scells Y (n + 1) = scells Y n ++ [.int .i64 ((startU Y n : Nat) : Int), .int .i64 ((lenU Y n : Nat) : Int)] := by
  unfold scells
  rw [List.range_succ, List.flatMap_append]
  simp
theorem scells_length (Y : Nat → Nat) : ∀ n, (scells Y n).length = n * 2
  | 0 => rfl
  | n + 1 => by rw [scells_snoc, List.length_append, scells_length Y n]; simp; omega
theorem scells_at (Y : Nat → Nat) : ∀ n i, i < n → (scells Y n)[i * 2]? = some (.int .i64 ((startU Y i : Nat) : Int)) ∧ (scells Y n)[i * 2 + 1]? = some (.int .i64 ((lenU Y i : Nat) : Int))
  | 0, i, h => absurd h (Nat.not_lt_zero i)
  | n + 1, i, h => by
    rw [scells_snoc]
    by_cases hi : i < n
    · rw [List.getElem?_append_left (by rw [scells_length]; omega), List.getElem?_append_left (by rw [scells_length]; omega)]
      exact scells_at Y n i hi
    · obtain rfl : i = n := by omega
      rw [List.getElem?_append_right (by rw [scells_length]; omega), List.getElem?_append_right (by rw [scells_length]; omega), scells_length, Nat.sub_self, show i * 2 + 1 - i * 2 = 1 by omega]
      exact ⟨rfl, rfl⟩

/-- the head names sections that have just the m pages. -/
def Spanned (Y : Nat → Nat) (m K : Nat) : Prop := Y 4 + 256 * Y 5 = K ∧ K ≤ 60 ∧ (∀ i, i < K → lenU Y i ≤ 1048576) ∧ startU Y K = m

/-- spansOf's own memory, j sections being over. -/
structure SIn (lo j : Nat) (Y : Nat → Nat) (v : Value) (f : Nat) (w : World) : Prop where
  r0 : w.cell? ⟨lo, 0, none⟩ = some (.slice none 0 0)
  r0f : w.frozen? ⟨lo, 0, none⟩ = false
  r1 : w.cell? ⟨lo + 1, 0, none⟩ = some (.bool false)
  r1f : w.frozen? ⟨lo + 1, 0, none⟩ = false
  box : w.cell? ⟨lo + 2, 0, none⟩ = some v
  boxf : w.frozen? ⟨lo + 2, 0, none⟩ = false
  nx : w.cell? ⟨lo + 3, 0, none⟩ = some (.int .i64 (f : Int))
  nxf : w.frozen? ⟨lo + 3, 0, none⟩ = false
  row : w.ownsRow (lo + 8) 92 2 v j (scells Y j)
  lt : lo + 6 ≤ w.heap.size
theorem SIn.grown {lo j f : Nat} {Y : Nat → Nat} {v : Value} {w w' : World} {row : Option Nat} (h : SIn lo j Y v f w) (hg : w.grownBy w' row) (hr : ∀ z, row = some z → lo + 3 < z ∧ z < lo + 8) : SIn lo j Y v f w' := by
  have hl := h.lt
  have k : ∀ z, z ≤ lo + 3 → w'.heap[z]? = w.heap[z]? := fun z hz => hg.block z (by omega) (fun e => by have := hr z e.symm; omega)
  exact ⟨(World.cell?_of_block (a := ⟨lo, 0, none⟩) (k _ (by show lo ≤ lo + 3; omega))).trans h.r0, (World.frozen?_of_block (a := ⟨lo, 0, none⟩) (k _ (by show lo ≤ lo + 3; omega))).trans h.r0f, (World.cell?_of_block (a := ⟨lo + 1, 0, none⟩) (k _ (by show lo + 1 ≤ lo + 3; omega))).trans h.r1, (World.frozen?_of_block (a := ⟨lo + 1, 0, none⟩) (k _ (by show lo + 1 ≤ lo + 3; omega))).trans h.r1f,
    (World.cell?_of_block (a := ⟨lo + 2, 0, none⟩) (k _ (by show lo + 2 ≤ lo + 3; omega))).trans h.box, (World.frozen?_of_block (a := ⟨lo + 2, 0, none⟩) (k _ (by show lo + 2 ≤ lo + 3; omega))).trans h.boxf,
    (World.cell?_of_block (a := ⟨lo + 3, 0, none⟩) (k _ (Nat.le_refl _))).trans h.nx, (World.frozen?_of_block (a := ⟨lo + 3, 0, none⟩) (k _ (Nat.le_refl _))).trans h.nxf,
    h.row.kept hg (by
      rcases hv : v.ownBlock with _ | g
      · exact .inl rfl
      · refine .inr fun e => ?_
        have h1 := (h.row.lt g hv).1
        have h2 := hr g e.symm
        omega), Nat.le_trans hl hg.size⟩
/-- a span laid behind, and the box turned. -/
theorem SIn.laid {lo j f : Nat} {Y : Nat → Nat} {v v' : Value} {w w' : World} (h : SIn lo j Y v f w) (hg : w.grownBy w' v.ownBlock) (hr : w'.ownsRow (lo + 8) 92 2 v' (j + 1) (scells Y (j + 1))) :
    w'.cell? ⟨lo + 2, 0, none⟩ = some v ∧ w'.frozen? ⟨lo + 2, 0, none⟩ = false ∧ SIn lo (j + 1) Y v' f (w'.setCell ⟨lo + 2, 0, none⟩ v') := by
  have hl := h.lt
  have k : ∀ z, z ≤ lo + 3 → w'.heap[z]? = w.heap[z]? := fun z hz => hg.block z (by omega) (fun e => by have := (h.row.lt z e.symm).1; omega)
  have k2 : ∀ z, z ≠ lo + 2 → (w'.setCell ⟨lo + 2, 0, none⟩ v').heap[z]? = w'.heap[z]? := fun z h1 => Below.heap_setCell _ _ _ _ h1
  have c3 : w'.cell? ⟨lo + 2, 0, none⟩ = some v := (World.cell?_of_block (a := ⟨lo + 2, 0, none⟩) (k _ (by show lo + 2 ≤ lo + 3; omega))).trans h.box
  have f3 : w'.frozen? ⟨lo + 2, 0, none⟩ = false := (World.frozen?_of_block (a := ⟨lo + 2, 0, none⟩) (k _ (by show lo + 2 ≤ lo + 3; omega))).trans h.boxf
  refine ⟨c3, f3, ?_⟩
  exact {
    r0 := (World.cell?_of_block (a := ⟨lo, 0, none⟩) ((k2 _ (by show lo ≠ lo + 2; omega)).trans (k _ (by show lo ≤ lo + 3; omega)))).trans h.r0
    r0f := (World.frozen?_of_block (a := ⟨lo, 0, none⟩) ((k2 _ (by show lo ≠ lo + 2; omega)).trans (k _ (by show lo ≤ lo + 3; omega)))).trans h.r0f
    r1 := (World.cell?_of_block (a := ⟨lo + 1, 0, none⟩) ((k2 _ (by show lo + 1 ≠ lo + 2; omega)).trans (k _ (by show lo + 1 ≤ lo + 3; omega)))).trans h.r1
    r1f := (World.frozen?_of_block (a := ⟨lo + 1, 0, none⟩) ((k2 _ (by show lo + 1 ≠ lo + 2; omega)).trans (k _ (by show lo + 1 ≤ lo + 3; omega)))).trans h.r1f
    box := World.cell?_setCell_same' _ _ _ (by rw [c3]; rfl)
    boxf := (World.frozen?_setCell _ _ _ _).trans f3
    nx := (World.cell?_of_block (a := ⟨lo + 3, 0, none⟩) ((k2 _ (by show lo + 3 ≠ lo + 2; omega)).trans (k _ (by show lo + 3 ≤ lo + 3; omega)))).trans h.nx
    nxf := (World.frozen?_of_block (a := ⟨lo + 3, 0, none⟩) ((k2 _ (by show lo + 3 ≠ lo + 2; omega)).trans (k _ (by show lo + 3 ≤ lo + 3; omega)))).trans h.nxf
    row := hr.kept (grownBy_setCell' w' (lo + 2) v') (by
      rcases hv : v'.ownBlock with _ | g
      · exact .inl rfl
      · refine .inr fun e => ?_
        have h1 := (hr.lt g hv).1
        injection e with e
        omega)
    lt := by
      have := hg.size
      simp [World.setCell]
      omega }
/-- the next page's number turned. -/
theorem SIn.next {lo j f : Nat} {Y : Nat → Nat} {v : Value} {w : World} (h : SIn lo j Y v f w) (f' : Nat) : SIn lo j Y v f' (w.setCell ⟨lo + 3, 0, none⟩ (.int .i64 (f' : Int))) := by
  have k2 : ∀ z, z ≠ lo + 3 → (w.setCell ⟨lo + 3, 0, none⟩ (.int .i64 (f' : Int))).heap[z]? = w.heap[z]? := fun z h1 => Below.heap_setCell _ _ _ _ h1
  exact {
    r0 := (World.cell?_of_block (a := ⟨lo, 0, none⟩) (k2 _ (by show lo ≠ lo + 3; omega))).trans h.r0
    r0f := (World.frozen?_setCell _ _ _ _).trans h.r0f
    r1 := (World.cell?_of_block (a := ⟨lo + 1, 0, none⟩) (k2 _ (by show lo + 1 ≠ lo + 3; omega))).trans h.r1
    r1f := (World.frozen?_setCell _ _ _ _).trans h.r1f
    box := (World.cell?_of_block (a := ⟨lo + 2, 0, none⟩) (k2 _ (by show lo + 2 ≠ lo + 3; omega))).trans h.box
    boxf := (World.frozen?_setCell _ _ _ _).trans h.boxf
    nx := World.cell?_setCell_same' _ _ _ (by rw [h.nx]; rfl)
    nxf := (World.frozen?_setCell _ _ _ _).trans h.nxf
    row := h.row.kept (grownBy_setCell' w (lo + 3) _) (by
      rcases hv : v.ownBlock with _ | g
      · exact .inl rfl
      · refine .inr fun e => ?_
        have h1 := (h.row.lt g hv).1
        injection e with e
        omega)
    lt := by
      have := h.lt
      simp [World.setCell]
      omega }

set_option maxRecDepth 100000 in
set_option maxHeartbeats 3200000 in
theorem spansOf_any (ad : Addr) (m c : Nat) (Y : Nat → Nat) (w : World) (hm : 1 ≤ m ∧ m ≤ 4096) (hc : 256 * m ≤ c) (ho : Bys w w.heap.size (some ad) (256 * m) Y) :
    Calls Tryd.prog 37 #[.slice (some ad) (256 * m : Nat) c] w fun e w' => Below w.heap.size w w' ∧ ∃ v b, e = .returned (.tuple #[v, .bool b]) ∧ (b = false → ∀ K, ¬ Spanned Y m K) ∧
      (b = true → ∃ K, Spanned Y m K ∧ w'.ownsRow w.heap.size 92 2 v K (scells Y K)) := by
  have HO := Lib.hid ho
  have HY := Lib.hid (show ∀ k, k < 256 * m → Y k < 256 from fun k hk => (ho k hk).elim fun _ h => h.2.2.2)
  clear ho
  obtain ⟨lo, hlo⟩ : ∃ lo, w.heap.size = lo := ⟨_, rfl⟩
  rw [hlo] at HO ⊢
  obtain ⟨M, hM⟩ : ∃ M, 256 * m = M := ⟨_, rfl⟩
  have HM := Lib.hid hM
  rw [hM] at HO HY hc ⊢
  have hM1 : 256 ≤ M := by omega
  have hM2 : M ≤ 1048576 := by omega
  clear hM
  obtain ⟨ad4, had4⟩ : ∃ a, ad.add 4 = a := ⟨_, rfl⟩
  obtain ⟨ad6, had6⟩ : ∃ a, ad.add 6 = a := ⟨_, rfl⟩
  obtain ⟨K, hK⟩ : ∃ K, lowS (fun z => Y (4 + z)) 2 = K := ⟨_, rfl⟩
  have HKv := Lib.hid (show Y 4 + 256 * Y 5 = K by rw [← hK, lowS_two])
  have HN1 : ∀ W, Below lo w W → Hid (Calls Tryd.prog 52 #[.slice (some ad4) 2 (c - 4)] W fun e w' => e = .returned (.int .u32 (K : Int)) ∧ W = w') := fun W hW => by
    have h := imgNumber_any (some ad4) 2 (c - 4) (fun z => Y (4 + z)) lo W (by decide) (by rw [← had4]; exact Bys.cut_ (HO.out.below hW) (by omega))
    rw [hK] at h
    exact Lib.hid h
  have hK16 : K < 65536 := by
    have h1 := HY.out 4 (by omega)
    have h2 := HY.out 5 (by omega)
    have h3 := HKv.out
    omega
  have q1 : c ≠ 4 := by omega
  have q2 : c ≠ 6 := by omega
  have q3 : (6 : Int) ≤ (c : Int) := by omega
  have hz0 : (w.alloc (.cells #[.slice none 0 0] 82)).heap.size = lo + 1 := by rw [size_alloc, hlo]
  have hbA : Below lo w ((w.alloc (.cells #[.slice none 0 0] 82)).alloc (.cells #[.bool false] 4)) := by rw [← hlo]; exact ((Below.refl _ _).alloc (Nat.le_refl _) _).alloc (by rw [size_alloc]; omega) _
  have HN := HN1 _ hbA
  clear hK hbA
  by_cases hK60 : 60 < K
  · have hd : decide ((60 : Int) < (K : Int)) = true := by simp; omega
    have HNo : Hid (∀ K', ¬ Spanned Y m K') := Lib.hid fun K' h => by have h1 := h.1; have h2 := h.2.1; have h3 := HKv.out; omega
    go_enter Tryd.func37, Tryd.ntmps37
    go_wp2_with fail
    refine HN.out.mono ?_
    rintro e w' ⟨rfl, rfl⟩
    go_wp2_with fail
    have l0 := (lies_new w 82 [.slice none 0 0]).alloc (.cells #[.bool false] 4)
    have l1 := lies_new (w.alloc (.cells #[.slice none 0 0] 82)) 4 [.bool false]
    rw [hz0] at l1
    rw [hlo] at l0
    have g0 := l0.cell 0
    have g1 := l1.cell 0
    exact bodyPost_ret (v := .tuple #[.slice none 0 0, .bool false]) (by simp [results, Tryd.results37, go_sem, g0, g1]) rfl ⟨by rw [← hlo]; exact ((Below.refl _ _).alloc (Nat.le_refl _) _).alloc (by rw [size_alloc]; omega) _, _, _, rfl, fun _ => HNo.out, fun h => (by cases h)⟩
  · have hd : decide ((60 : Int) < (K : Int)) = false := by simp; omega
    obtain ⟨k4, hk4⟩ : ∃ k4, 4 * K = k4 := ⟨_, rfl⟩
    have e1 : IntKind.i64.wrap ((K : Int) * 4) = (k4 : Int) := by rw [IntWalk.i64_in _ (by omega)]; omega
    have e2 : IntKind.i64.wrap (6 + (k4 : Int)) = ((6 + k4 : Nat) : Int) := by rw [IntWalk.i64_in _ (by omega)]; omega
    have e3 : (6 : Int) ≤ ((6 + k4 : Nat) : Int) := by omega
    have e4 : ((6 + k4 : Nat) : Int) ≤ (c : Int) := by omega
    have e5 : 6 + k4 - 6 = k4 := by omega
    refine (callsIn_wide (n := 0)).1 ?_
    refine callsIn_of_wp_marks Tryd.func37 rfl trivial ?_ rfl
    simp only [Tryd.ntmps37, List.size_toArray, List.length_cons, List.length_nil, Nat.reduceAdd, Nat.reduceSub, Array.replicate_succ, Array.replicate_zero, List.push_toArray, List.append_toArray, List.nil_append, List.cons_append]
    gi_wp2_with (first
      | (refine ⟨trivial, rfl, ?_⟩; gi_at_call 52; refine (callsIn_wide.2 HN.out).mono ?_; rintro e w' ⟨rfl, rfl⟩)
      | (refine ⟨trivial, rfl, ?_⟩; gi_at_call 48; refine (callsIn_wide.2 (chunk_any (some ad6) k4 (c - 6) 4 _ (by decide))).mono ?_; rintro e w' ⟨rfl, rfl⟩))
    obtain ⟨wD, hwD, hzD, hBD, D0, D1, D2, D3, D4⟩ := five_new w lo hlo 82 4 82 3 31 [.slice none 0 0] [.bool false] [.slice none 0 0] [.int .i64 1] [.slice (some ad6) k4 (c - 6)]
    obtain ⟨wE, hwE⟩ : ∃ W, wD.alloc (.cells #[.int .i64 4] 3) = W := ⟨_, rfl⟩
    have hzE : wE.heap.size = lo + 6 := by rw [← hwE, size_alloc, hzD]
    have hbE : Below (lo + 5) wD wE := by rw [← hwE]; exact (Below.refl _ _).alloc (by omega) _
    have L5 : Lies wE (lo + 5) 3 [.int .i64 4] := by rw [← hwE, ← hzD]; exact lies_new wD 3 [.int .i64 4]
    have hBE : Below lo w wE := hBD.trans (hbE.mono (by omega))
    have L0 := D0.below hbE (by omega)
    have L1 := D1.below hbE (by omega)
    have L2 := D2.below hbE (by omega)
    have L3 := D3.below hbE (by omega)
    have L4 := D4.below hbE (by omega)
    rw [hwD, hwE, show lo + 1 + 1 + 1 + 1 + 1 = lo + 4 + 1 from rfl, show lo + 1 + 1 + 1 + 1 = lo + 4 from rfl, show lo + 1 + 1 + 1 = lo + 3 from rfl, show lo + 1 + 1 = lo + 2 from rfl]
    clear hwD hwE D0 D1 D2 D3 D4 hbE hBD
    have hG := chunk_gives ad6 k4 (c - 6) 4 (lo + 4) (lo + 4 + 1) wE (by decide) (by omega) (by omega) (by omega) (by omega) (L4.cell 0) (L5.cell 0)
    have hPK : partsIn k4 4 = K := by unfold partsIn; omega
    rw [hPK] at hG
    have hS0 : SIn lo 0 Y (.slice none 0 0) 1 wE := ⟨L0.cell 0, L0.free 0, L1.cell 0, L1.free 0, L2.cell 0, L2.free 0, L3.cell 0, L3.free 0, World.ownsRow_nil _ _ _ _, by omega⟩
    obtain ⟨iS, hiS, hzS, hsS, hbS⟩ := info_parts info_span
    clear L0 L1 L2 L3 L4 L5
    refine range_law (gf := 54) (lb := #[.pointer (some ⟨lo + 4, 0, none⟩), .pointer (some ⟨lo + 4 + 1, 0, none⟩)]) rfl (enters_of Tryd.func54 (by kernel_rfl) rfl) hG (fun _ => rfl)
      (Off fun z => lo + 4 ≤ z ∧ z < lo + 8) (fun j W' => Hid (∃ v f, f = startU Y j ∧ SIn lo j Y v f W') ∧ Hid (∀ p, p < j → lenU Y p ≤ 1048576) ∧ Hid (Below lo w W'))
      (fun c' W' => c' = .ret ∧ Hid (W'.cell? ⟨lo, 0, none⟩ = some (.slice none 0 0) ∧ W'.cell? ⟨lo + 1, 0, none⟩ = some (.bool false) ∧ lo + 6 ≤ W'.heap.size) ∧ Hid (∀ K', ¬ Spanned Y m K') ∧ Hid (Below lo w W'))
      (fun A A' h z _ _ _ => by rw [h.heap]) (fun A A' h z h1 h2 h3 => h.block z h3 (by omega)) ?kp ?inv ?ix (fun _ _ _ _ _ h _ _ => h) ⟨Lib.hid ⟨_, _, rfl, hS0⟩, Lib.hid (fun p h => absurd h (Nat.not_lt_zero p)), Lib.hid hBE⟩
      (fun j => { tmps := #[.slice (some ad) M c, undef, .pointer (some ⟨lo, 0, none⟩), .pointer (some ⟨lo + 1, 0, none⟩), .int .u32 (K : Int), .pointer (some ⟨lo + 2, 0, none⟩), .pointer (some ⟨lo + 3, 0, none⟩), partAt ad6 k4 4 j, undef, .slice (some ad) M c, .slice (some ad4) 2 (c - 4), .int .u32 (K : Int), .int .u32 (K : Int), .bool false, .slice (some ad) M c, .int .u32 (K : Int), .int .i64 (K : Int), .int .i64 (k4 : Int), .int .i64 (6 + (k4 : Int)), .slice (some ad6) k4 (c - 6), .func (.func 54) #[] #[.pointer (some ⟨lo + 4, 0, none⟩), .pointer (some ⟨lo + 4 + 1, 0, none⟩)], partAt ad6 k4 4 j, undef, undef, undef, undef, undef, undef, undef, undef, undef, undef, undef, undef, undef, undef, undef, undef, undef, undef, undef, undef, undef, undef], defers := [] }) ?assign ?body ?done ?stop
    case kp =>
      intro X Y' Z T hs h1 h2 h3
      rw [hzE] at h1 h3
      have hs1 := h1.size
      have hs2 := h2.size
      exact ⟨(h3.block (lo + 4) (by omega) (fun e => by injection e with e; omega)).trans ((h2.block (lo + 4) (by omega) (by omega)).trans (h1.block (lo + 4) (by omega) (fun e => by injection e with e; omega))), (h3.block (lo + 4 + 1) (by omega) (fun e => by injection e with e; omega)).trans ((h2.block (lo + 4 + 1) (by omega) (by omega)).trans (h1.block (lo + 4 + 1) (by omega) (fun e => by injection e with e; omega)))⟩
    case inv =>
      rintro j X X' ⟨h1, h2, h3⟩ h
      obtain ⟨v, f, hf, hv⟩ := h1.out
      have hl := hv.lt
      rw [hzE] at h
      rcases h with h | h
      · exact ⟨Lib.hid ⟨v, f, hf, hv.grown h (fun z e => by cases e; omega)⟩, h2, Lib.hid (h3.out.trans (below_row h (by omega) (fun z e => by cases e; omega)))⟩
      · exact ⟨Lib.hid ⟨v, f, hf, hv.grown (row := none) (grownBy_of_below (h.below _) _) (fun z e => by cases e)⟩, h2, Lib.hid (h3.out.trans (h.below _))⟩
    case ix =>
      rintro c' X X' ⟨h1, h2, h3, h4⟩ h
      obtain ⟨q0, q1, q2⟩ := h2.out
      have hb : Below (lo + 6) X X' := by
        rw [hzE] at h
        rcases h with h | h
        · exact below_row h q2 (fun z e => by cases e; omega)
        · exact h.below _
      exact ⟨h1, Lib.hid ⟨(hb.cell (p := ⟨lo, 0, none⟩) (by show lo < lo + 6; omega)).trans q0, (hb.cell (p := ⟨lo + 1, 0, none⟩) (by show lo + 1 < lo + 6; omega)).trans q1, Nat.le_trans q2 hb.size⟩, h3, Lib.hid (h4.out.trans (hb.mono (by omega)))⟩
    case assign =>
      intro l' x W' K' hK'
      gi_wp2
      exact hK'
    case body =>
      rintro l' j x W' hsz hj rfl ⟨hS, hgood, hb⟩
      obtain ⟨v, f, hf, hSv⟩ := hS.out
      clear hS
      obtain ⟨X, cx, rfl⟩ : ∃ X cx, v = .slice X x cx := by
        rcases hSv.row.2 with ⟨h1, h2⟩ | ⟨g, cap, _, h1, _⟩
        · exact ⟨none, 0, by rw [h1, h2]⟩
        · exact ⟨_, cap, h1⟩
      obtain ⟨ad3, had3⟩ : ∃ a3, ad6.add (4 * x) = a3 := ⟨_, rfl⟩
      have hpt : partAt ad6 k4 4 x = .slice (some ad3) 4 4 := by
        have h : partLen k4 4 x = 4 := by unfold partLen; omega
        unfold partAt
        rw [h, had3]
      obtain ⟨nn, hnn⟩ : ∃ nn, lenU Y x = nn := ⟨_, rfl⟩
      have HNn := Lib.hid hnn
      have HN2 : Hid (Calls Tryd.prog 52 #[.slice (some ad3) 4 4] W' fun e w' => e = .returned (.int .u32 (nn : Int)) ∧ W' = w') := by
        have h := imgNumber_any (some ad3) 4 4 (fun z => Y (6 + (4 * x + z))) lo W' (by decide) (by rw [← had3, ← had6]; exact Bys.cut_ (V := fun z => Y (6 + z)) (n := k4) (Bys.cut_ (HO.out.below hb.out) (by omega)) (by omega))
        have e : lowS (fun z => Y (6 + (4 * x + z))) 4 = nn := by
          rw [lowS_four, ← hnn]
          unfold lenU
          rw [show 6 + (4 * x + 0) = 6 + 4 * x by omega, show 6 + (4 * x + 1) = 6 + 4 * x + 1 by omega, show 6 + (4 * x + 2) = 6 + 4 * x + 2 by omega, show 6 + (4 * x + 3) = 6 + 4 * x + 3 by omega]
        rw [e] at h
        exact Lib.hid h
      have hnl : nn < 4294967296 := by
        have h1 := HY.out (6 + 4 * x) (by omega)
        have h2 := HY.out (6 + 4 * x + 1) (by omega)
        have h3 := HY.out (6 + 4 * x + 2) (by omega)
        have h4 := HY.out (6 + 4 * x + 3) (by omega)
        rw [← hnn]
        unfold lenU
        omega
      have hl := hSv.lt
      have hbx := hSv.box
      have hbf := hSv.boxf
      have a0 := hSv.r0
      have a1 := hSv.r0f
      have a2 := hSv.r1
      have a3 := hSv.r1f
      have n0 := hSv.nx
      have n1 := hSv.nxf
      have HSv := Lib.hid hSv
      rw [hpt]
      clear hpt had3 hnn hSv
      by_cases hbig : 1048576 < nn
      · have d1 : decide ((1048576 : Int) < (nn : Int)) = true := by simp; omega
        have HNj : Hid (∀ K', ¬ Spanned Y m K') := Lib.hid fun K' h => by
          have h1 := h.1
          have h2 := HKv.out
          have h3 := h.2.2.1 x (by omega)
          rw [HNn.out] at h3
          omega
        gi_wp2
        refine ⟨trivial, rfl, (CallsIn.inRound l' (callsIn_wide.2 HN2.out)).mono ?_⟩
        rintro e w2 ⟨rfl, rfl⟩
        gi_wp2
        obtain ⟨r1, r2, r3, r4, r5⟩ := two_results (u := .slice none 0 0) (b := .bool false) a0 a2 rfl
        exact ⟨(Off.setCell (by show ¬ (lo + 4 ≤ lo ∧ lo < lo + 8); omega) _).trans (Off.setCell (by show ¬ (lo + 4 ≤ lo + 1 ∧ lo + 1 < lo + 8); omega) _), rfl, Lib.hid ⟨r3, r4, by omega⟩, HNj, Lib.hid (hb.out.trans r5)⟩
      · have d1 : decide ((1048576 : Int) < (nn : Int)) = false := by simp; omega
        obtain ⟨pn, hpn⟩ : ∃ pn, pgs nn = pn := ⟨_, rfl⟩
        have hpl : pn ≤ 4096 := by unfold pgs at hpn; omega
        have HMy := fun W => Lib.hid (many_any (nn : Int) W (by simp [Lit.wf, IntKind.min, IntKind.max, IntKind.bits, IntKind.signed]; omega))
        have hmn : manyOf (nn : Int) = (pn : Int) := by rw [many_nat, hpn]
        rw [hmn] at HMy
        have HF := Lib.hid (show f + pn = startU Y (x + 1) by rw [hf, ← hpn, ← HNn.out]; rfl)
        have hfl : f ≤ 300000 := by
          have h : ∀ i, i ≤ x → startU Y i ≤ 1 + 4096 * i := fun i => by
            induction i with
            | zero => intro _; show 1 ≤ 1 + 4096 * 0; omega
            | succ i ih =>
              intro hi
              have h1 := ih (by omega)
              have h2 := hgood.out i (by omega)
              show startU Y i + pgs (lenU Y i) ≤ _
              have h3 : pgs (lenU Y i) ≤ 4096 := by unfold pgs; omega
              omega
          have := h x (Nat.le_refl _)
          omega
        have HGd : Hid (∀ p, p < x + 1 → lenU Y p ≤ 1048576) := Lib.hid fun p hp => by
          by_cases h : p < x
          · exact hgood.out p h
          · obtain rfl : p = x := by omega
            rw [HNn.out]
            omega
        have e6 : IntKind.i64.wrap ((f : Int) + (pn : Int)) = ((f + pn : Nat) : Int) := by rw [IntWalk.i64_in _ (by omega)]; omega
        have e7 : IntKind.i64.wrap (nn : Int) = (nn : Int) := IntWalk.i64_in _ (by omega)
        have hmix : Tryd.prog.follows .mixedOrders = true := by kernel_rfl
        have HSn : Hid (scells Y x ++ [.int .i64 (f : Int), .int .i64 (nn : Int)] = scells Y (x + 1)) := Lib.hid (by rw [scells_snoc, hf, HNn.out])
        have HCl : Hid (∀ (z : Nat) (u : Value), [Value.int .i64 (f : Int), Value.int .i64 (nn : Int)][z]? = some u → (W'.alloc (.cells #[.int .i64 (f : Int), .int .i64 (nn : Int)] 92)).cell? ((⟨W'.heap.size, 0, none⟩ : Addr).add z) = some u) := Lib.hid fun z u hz => by
          rw [Addr.add_mid, Nat.zero_add]
          exact ((lies_new W' 92 [.int .i64 (f : Int), .int .i64 (nn : Int)]).cell z).trans hz
        clear hpn hf hmn
        gi_wp2
        refine ⟨trivial, rfl, (CallsIn.inRound l' (callsIn_wide.2 HN2.out)).mono ?_⟩
        rintro e w2 ⟨rfl, rfl⟩
        gi_wp2_with (gi_at_builtin; refine wpListIn_append_own _ rfl (.tmp 26) (.tmp 31) 82 rfl (lo + 8) 92 iS (.agg #[.int .i64 0, .int .i64 0]) 2 16 Tryd.underlying82 hiS hzS hsS hbS rfl (by decide) _ x _ rfl (HSv.out.row.alloc _) ⟨W'.heap.size, 0, none⟩ 1 1 [.int .i64 (f : Int), .int .i64 (nn : Int)] rfl rfl HCl.out (fun u hu => by simp at hu; rcases hu with rfl | rfl <;> rfl) (by unfold maxLen; omega) (by omega) (by rw [size_alloc]; omega) ?_; intro v3 w3 hr3 hg3 _; obtain ⟨g3, cc3, rfl⟩ := ownsRow_succ hr3; rw [HSn.out] at hr3; have HG3 := Lib.hid hg3; have HSa := Lib.hid (HSv.out.grown (row := none) (World.grownBy_alloc W' (.cells #[.int .i64 (f : Int), .int .i64 (nn : Int)] 92) none) (fun z e => by cases e)); obtain ⟨c3, f3, hS3⟩ := HSa.out.laid hg3 hr3; have HS3 := Lib.hid hS3; have n3 := hS3.nx; have n4 := hS3.nxf)
        have hrl : ∀ z, (Value.slice X x cx).ownBlock = some z → lo + 8 ≤ z := fun z e => (HSa.out.row.lt z e).1
        have hOf : Off (fun z => lo + 4 ≤ z ∧ z < lo + 8) W' (((w3.setCell ⟨lo + 2, 0, none⟩ (.slice (some ⟨g3, 0, none⟩) (x + 1) cc3)).setCell ⟨lo + 3, 0, none⟩ (.int .i64 ((f + pn : Nat) : Int))).drew) :=
          ((((Off.grown (World.grownBy_alloc W' (.cells #[.int .i64 (f : Int), .int .i64 (nn : Int)] 92) none) (fun z e => by cases e)).trans (Off.grown HG3.out (fun z e => by have := hrl z e; omega))).trans (Off.setCell (by show ¬ (lo + 4 ≤ lo + 2 ∧ lo + 2 < lo + 8); omega) _)).trans (Off.setCell (by show ¬ (lo + 4 ≤ lo + 3 ∧ lo + 3 < lo + 8); omega) _)).trans ⟨rfl, rfl, rfl, Nat.le_refl _, fun _ _ _ => rfl⟩
        have HSf := Lib.hid ((HS3.out.next (f + pn)).grown (w' := ((w3.setCell ⟨lo + 2, 0, none⟩ (.slice (some ⟨g3, 0, none⟩) (x + 1) cc3)).setCell ⟨lo + 3, 0, none⟩ (.int .i64 ((f + pn : Nat) : Int))).drew) (row := none) ⟨rfl, rfl, rfl, Nat.le_refl _, fun _ _ _ => rfl⟩ (fun z e => by cases e))
        have hBf : Below lo w (((w3.setCell ⟨lo + 2, 0, none⟩ (.slice (some ⟨g3, 0, none⟩) (x + 1) cc3)).setCell ⟨lo + 3, 0, none⟩ (.int .i64 ((f + pn : Nat) : Int))).drew) :=
          ((((hb.out.alloc (by omega) (.cells #[.int .i64 (f : Int), .int .i64 (nn : Int)] 92)).trans (below_row HG3.out (by rw [size_alloc]; omega) (fun z e => by have := hrl z e; omega))).setCell (p := ⟨lo + 2, 0, none⟩) (by show lo ≤ lo + 2; omega) _).setCell (p := ⟨lo + 3, 0, none⟩) (by show lo ≤ lo + 3; omega) _).drew
        gi_region_with_o (refine ⟨trivial, rfl, ?_⟩; gi_at_call 45; refine (CallsIn.inRound l' (callsIn_wide.2 (HMy _).out)).mono ?_; rintro e w' ⟨rfl, rfl⟩)
        all_goals gi_wp2
        all_goals
          rw [show (f : Int) + (pn : Int) = ((f + pn : Nat) : Int) by omega]
          exact ⟨hOf, Lib.hid ⟨_, _, HF.out, HSf.out⟩, HGd, Lib.hid hBf⟩
    case done =>
      rintro D W' hD ⟨hS, hgood, hb⟩ hK'
      obtain ⟨v, f, hf, hSv⟩ := hS.out
      have hDl := (Array.getElem?_eq_some_iff.1 hK').1
      obtain ⟨X, cx, rfl⟩ : ∃ X cx, v = .slice X K cx := by
        rcases hSv.row.2 with ⟨h1, h2⟩ | ⟨g, cap, _, h1, _⟩
        · exact ⟨none, 0, by rw [h1, h2]⟩
        · exact ⟨_, cap, h1⟩
      have hl := hSv.lt
      have hfl : f ≤ 300000 := by
        have h : ∀ i, i ≤ K → startU Y i ≤ 1 + 4096 * i := fun i => by
          induction i with
          | zero => intro _; show 1 ≤ 1 + 4096 * 0; omega
          | succ i ih =>
            intro hi
            have h1 := ih (by omega)
            have h2 := hgood.out i (by omega)
            show startU Y i + pgs (lenU Y i) ≤ _
            have h3 : pgs (lenU Y i) ≤ 4096 := by unfold pgs; omega
            omega
        have := h K (Nat.le_refl _)
        omega
      obtain ⟨kf, hkf⟩ : ∃ kf, 256 * f = kf := ⟨_, rfl⟩
      have e6 : IntKind.i64.wrap ((f : Int) * 256) = (kf : Int) := by rw [IntWalk.i64_in _ (by omega)]; omega
      have hcmp : ((kf : Int) == (M : Int)) = decide (f = m) := by
        have h := HM.out
        by_cases he : f = m
        · rw [decide_eq_true he, beq_iff_eq]; omega
        · rw [decide_eq_false he, beq_eq_false_iff_ne]; omega
      have HYes : Hid (f = m → Spanned Y m K) := Lib.hid fun h => ⟨HKv.out, by omega, hgood.out, by rw [← hf]; exact h⟩
      have HNo : Hid (f ≠ m → ∀ K', ¬ Spanned Y m K') := Lib.hid fun h K' hs => by
        have h1 := hs.1
        have h2 := HKv.out
        have h3 : K' = K := by omega
        subst h3
        exact h (hf.trans hs.2.2.2)
      have hbx : W'.drew.cell? ⟨lo + 2, 0, none⟩ = some (.slice X K cx) := hSv.box
      have nx : W'.drew.cell? ⟨lo + 3, 0, none⟩ = some (.int .i64 (f : Int)) := hSv.nx
      have a0 : W'.drew.cell? ⟨lo, 0, none⟩ = some (.slice none 0 0) := hSv.r0
      have a1 : W'.drew.frozen? ⟨lo, 0, none⟩ = false := hSv.r0f
      have a2 : W'.drew.cell? ⟨lo + 1, 0, none⟩ = some (.bool false) := hSv.r1
      have a3 : W'.drew.frozen? ⟨lo + 1, 0, none⟩ = false := hSv.r1f
      have b2 : (W'.setCell ⟨lo, 0, none⟩ (.slice X K cx)).drew.cell? ⟨lo + 1, 0, none⟩ = some (.bool false) := (World.cell?_of_block (w := W') (a := ⟨lo + 1, 0, none⟩) (Below.heap_setCell _ _ _ _ (by show lo + 1 ≠ lo; omega))).trans a2
      have b3 : (W'.setCell ⟨lo, 0, none⟩ (.slice X K cx)).drew.frozen? ⟨lo + 1, 0, none⟩ = false := (World.frozen?_setCell _ _ _ _).trans a3
      have b4 : (W'.setCell ⟨lo, 0, none⟩ (.slice X K cx)).drew.cell? ⟨lo + 2, 0, none⟩ = some (.slice X K cx) := (World.cell?_of_block (w := W') (a := ⟨lo + 2, 0, none⟩) (Below.heap_setCell _ _ _ _ (by show lo + 2 ≠ lo; omega))).trans hbx
      have b5 : (W'.setCell ⟨lo, 0, none⟩ (.slice X K cx)).drew.cell? ⟨lo + 3, 0, none⟩ = some (.int .i64 (f : Int)) := (World.cell?_of_block (w := W') (a := ⟨lo + 3, 0, none⟩) (Below.heap_setCell _ _ _ _ (by show lo + 3 ≠ lo; omega))).trans nx
      have HRow := Lib.hid hSv.row
      clear hSv hkf hf
      gi_wp2
      gi_region
      gi_wp2
      obtain ⟨r1, r2, r3, r4, r5⟩ := two_results (W := W') (u := .slice X K cx) (b := .bool (decide (f = m))) a0 a2 rfl
      generalize (W'.setCell ⟨lo, 0, none⟩ (.slice X K cx)).setCell ⟨lo + 1, 0, none⟩ (.bool (decide (f = m))) = W2 at r1 r2 r3 r4 r5 ⊢
      have hrow2 : W2.drew.ownsRow lo 92 2 (.slice X K cx) K (scells Y K) := by
        have h0 := HRow.out
        rcases h0.2 with ⟨hv, hn0⟩ | ⟨g, cap, cur, hv, hg1, hg2, h3⟩
        · exact ⟨h0.1, .inl ⟨hv, hn0⟩⟩
        · exact ⟨h0.1, .inr ⟨g, cap, cur, hv, by omega, (r2 g (by omega) (by omega)).trans hg2, h3⟩⟩
      have hK2 : W2.drew.heap[D]? = some (.deferred (some [])) := (r2 D (by omega) (by omega)).trans hK'
      have hb2 : Below (lo + 6) W2.drew (W2.drew.putObj D (.deferred none)) := below_row (grownBy_putObj' _ D _) (by show lo + 6 ≤ W2.heap.size; omega) (fun z e => by cases e; omega)
      have z0 : (W2.drew.putObj D (.deferred none)).cell? ⟨lo, 0, none⟩ = _ := (hb2.cell (p := ⟨lo, 0, none⟩) (by show lo < lo + 6; omega)).trans r3
      have z1 : (W2.drew.putObj D (.deferred none)).cell? ⟨lo + 1, 0, none⟩ = _ := (hb2.cell (p := ⟨lo + 1, 0, none⟩) (by show lo + 1 < lo + 6; omega)).trans r4
      have hrow3 := ownsRow_putObj hrow2 (.deferred none) hK2 rfl
      have hB3 : Below lo w (W2.drew.putObj D (.deferred none)) := ((hb.out.trans r5).drew).trans (hb2.mono (by omega))
      refine ⟨by simp, .inl ⟨_, _, rfl, run_takeDeferred hK2, ?_⟩⟩
      exact ⟨.tuple #[.slice X K cx, .bool (decide (f = m))], by simp [results, Tryd.results37, go_sem, z0, z1], hB3, _, _, rfl, fun h => HNo.out (by simpa using h), fun h => ⟨K, HYes.out (by simpa using h), hrow3⟩⟩
    case stop =>
      rintro D c' W' hD ⟨rfl, hc', hno, hb⟩ hK'
      have hDl := (Array.getElem?_eq_some_iff.1 hK').1
      obtain ⟨q0, q1, q2⟩ := hc'.out
      gi_wp2
      have hMk : Marks (lo + 6) W'.heap.size ({ target := .collected D, args := #[] } :: []) W' := ⟨D, rfl, by omega, by omega, hK', trivial⟩
      exact hMk.out (by omega) fun w' hw' => by
        have b0 := (hw'.cell (p := ⟨lo, 0, none⟩) (by show lo < lo + 6; omega)).trans q0
        have b1 := (hw'.cell (p := ⟨lo + 1, 0, none⟩) (by show lo + 1 < lo + 6; omega)).trans q1
        exact ⟨.tuple #[.slice none 0 0, .bool false], by simp [results, Tryd.results37, go_sem, b0, b1], hb.out.trans (hw'.mono (by omega)), _, _, rfl, fun _ => hno.out, fun h => (by cases h)⟩
end Go.Proofs.YtjmajminfmcjcaaDoor
