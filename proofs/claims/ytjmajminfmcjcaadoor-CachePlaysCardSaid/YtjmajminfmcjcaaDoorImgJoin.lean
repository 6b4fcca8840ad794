/- The contract of image.joined: which bytes are pages by their numbers, and what stands in them. -/
import Derived.Test.YtjmajminfmcjcaaDoorImgBuild
namespace Go.Proofs.YtjmajminfmcjcaaDoor
open Go.RowKit Go.Shelf

attribute [local go_sem] Oper.semAt_some

/-- what Get answers, in two ways. -/
theorem get_form (ad : Addr) (n c : Nat) (V : Nat → Nat) (w : World) (hc : n ≤ c) (ho : Bys w w.heap.size (some ad) n V) (ht : Tabs w) :
    Calls Tryd.prog 51 #[.slice (some ad) n c] w fun e w' => Below w.heap.size w w' ∧
      ((¬ (n = 264 ∧ Pl.Ends V 260 ∧ numberOf V < 4096) ∧ ∃ er : Int, er ≠ 0 ∧ e = .returned (.tuple #[.int .i64 0, .slice none 0 0, .int .i64 er])) ∨
       ((n = 264 ∧ Pl.Ends V 260 ∧ numberOf V < 4096) ∧ ∃ v, e = .returned (.tuple #[.int .i64 ((numberOf V : Nat) : Int), v, .int .i64 0]) ∧ w'.ownsRow w.heap.size 5 1 v 256 (ycells V 256))) := by
  refine (pageGet_any (some ad) n c V w (fun e => (by cases e)) hc ho ht).mono ?_
  rintro e w' ⟨h1, h2, h3, h4, h5, hb⟩
  refine ⟨hb, ?_⟩
  by_cases a1 : n < 264
  · exact .inl ⟨fun h => by omega, 50, by decide, h1 a1⟩
  · by_cases a2 : 264 < n
    · exact .inl ⟨fun h => by omega, 51, by decide, h2 a2⟩
    · have a3 : n = 264 := by omega
      by_cases a4 : Pl.Ends V 260
      · by_cases a5 : numberOf V < 4096
        · exact .inr ⟨⟨a3, a4, a5⟩, h5 a3 a4 a5⟩
        · exact .inl ⟨fun h => a5 h.2.2, 10, by decide, h4 a3 a4 (by omega)⟩
      · exact .inl ⟨fun h => a4 h.2.1, 40, by decide, h3 a3 a4⟩

/-- the bytes of a page p of these bytes. -/
def pageV (V : Nat → Nat) (p : Nat) : Nat → Nat := fun z => V (264 * p + z)
/-- what stands in all pages, one behind the other. -/
def bodyV (V : Nat → Nat) : Nat → Nat := fun z => V (place 0 z)
/-- the p-th page is one, by its number. -/
def PageGood (n : Nat) (V : Nat → Nat) (p : Nat) : Prop := 264 * p + 264 ≤ n ∧ p < 4096 ∧ Pl.Ends (pageV V p) 260 ∧ numberOf (pageV V p) = p
/-- m pages by their numbers. -/
def Joined (n : Nat) (V : Nat → Nat) (m : Nat) : Prop := 1 ≤ m ∧ m ≤ 4096 ∧ n = 264 * m ∧ ∀ p, p < m → PageGood n V p
theorem bodyV_lt {n m : Nat} {V : Nat → Nat} (hV : ∀ k, k < n → V k < 256) (hm : 264 * m ≤ n) (z : Nat) (hz : z < 256 * m) : bodyV V z < 256 := hV _ (by unfold place; omega)
theorem body_next (V : Nat → Nat) (j : Nat) : ycells (bodyV V) (256 * j) ++ ycells (pageV V j) 256 = ycells (bodyV V) (256 * j + 256) := by
  rw [ycells_both]
  refine ycells_congr fun z hz => ?_
  unfold both bodyV pageV place
  split
  · rfl
  · congr 1
    omega
theorem no_join {n m p : Nat} {V : Nat → Nat} (hp : 264 * p < n) (h : ¬ PageGood n V p) : ¬ Joined n V m := fun ⟨_, _, h3, h4⟩ => h (h4 p (by omega))

/-- joined's own memory, j pages being over. -/
structure JIn (lo j : Nat) (V : Nat → Nat) (v : Value) (w : World) : Prop where
  r0 : w.cell? ⟨lo, 0, none⟩ = some (.slice none 0 0)
  r0f : w.frozen? ⟨lo, 0, none⟩ = false
  r1 : w.cell? ⟨lo + 1, 0, none⟩ = some (.bool false)
  r1f : w.frozen? ⟨lo + 1, 0, none⟩ = false
  box : w.cell? ⟨lo + 2, 0, none⟩ = some v
  boxf : w.frozen? ⟨lo + 2, 0, none⟩ = false
  row : w.ownsRow (lo + 7) 5 1 v (256 * j) (ycells (bodyV V) (256 * j))
  lt : lo + 5 ≤ w.heap.size
theorem JIn.grown {lo j : Nat} {V : Nat → Nat} {v : Value} {w w' : World} {row : Option Nat} (h : JIn lo j V v w) (hg : w.grownBy w' row) (hr : ∀ z, row = some z → lo + 2 < z ∧ z < lo + 7) : JIn lo j V v w' := by
  have hl := h.lt
  have k : ∀ z, z ≤ lo + 2 → w'.heap[z]? = w.heap[z]? := fun z hz => hg.block z (by omega) (fun e => by have := hr z e.symm; omega)
  exact ⟨(World.cell?_of_block (a := ⟨lo, 0, none⟩) (k _ (by show lo ≤ lo + 2; omega))).trans h.r0, (World.frozen?_of_block (a := ⟨lo, 0, none⟩) (k _ (by show lo ≤ lo + 2; omega))).trans h.r0f, (World.cell?_of_block (a := ⟨lo + 1, 0, none⟩) (k _ (by show lo + 1 ≤ lo + 2; omega))).trans h.r1, (World.frozen?_of_block (a := ⟨lo + 1, 0, none⟩) (k _ (by show lo + 1 ≤ lo + 2; omega))).trans h.r1f,
    (World.cell?_of_block (a := ⟨lo + 2, 0, none⟩) (k _ (Nat.le_refl _))).trans h.box, (World.frozen?_of_block (a := ⟨lo + 2, 0, none⟩) (k _ (Nat.le_refl _))).trans h.boxf,
    h.row.kept hg (by
      rcases hv : v.ownBlock with _ | g
      · exact .inl rfl
      · refine .inr fun e => ?_
        have h1 := (h.row.lt g hv).1
        have h2 := hr g e.symm
        omega), Nat.le_trans hl hg.size⟩
/-- a page laid behind, and the box turned. -/
theorem JIn.laid {lo j : Nat} {V : Nat → Nat} {v v' : Value} {w w' : World} (h : JIn lo j V v w) (hg : w.grownBy w' v.ownBlock) (hr : w'.ownsRow (lo + 7) 5 1 v' (256 * j + 256) (ycells (bodyV V) (256 * j + 256))) :
    w'.cell? ⟨lo + 2, 0, none⟩ = some v ∧ w'.frozen? ⟨lo + 2, 0, none⟩ = false ∧ JIn lo (j + 1) V v' (w'.setCell ⟨lo + 2, 0, none⟩ v') := by
  have hl := h.lt
  have k : ∀ z, z ≤ lo + 2 → w'.heap[z]? = w.heap[z]? := fun z hz => hg.block z (by omega) (fun e => by have := (h.row.lt z e.symm).1; omega)
  have k2 : ∀ z, z ≠ lo + 2 → (w'.setCell ⟨lo + 2, 0, none⟩ v').heap[z]? = w'.heap[z]? := fun z h1 => Below.heap_setCell _ _ _ _ h1
  have c3 : w'.cell? ⟨lo + 2, 0, none⟩ = some v := (World.cell?_of_block (a := ⟨lo + 2, 0, none⟩) (k _ (Nat.le_refl _))).trans h.box
  have f3 : w'.frozen? ⟨lo + 2, 0, none⟩ = false := (World.frozen?_of_block (a := ⟨lo + 2, 0, none⟩) (k _ (Nat.le_refl _))).trans h.boxf
  refine ⟨c3, f3, ?_⟩
  exact {
    r0 := (World.cell?_of_block (a := ⟨lo, 0, none⟩) ((k2 _ (by show lo ≠ lo + 2; omega)).trans (k _ (by show lo ≤ lo + 2; omega)))).trans h.r0
    r0f := (World.frozen?_of_block (a := ⟨lo, 0, none⟩) ((k2 _ (by show lo ≠ lo + 2; omega)).trans (k _ (by show lo ≤ lo + 2; omega)))).trans h.r0f
    r1 := (World.cell?_of_block (a := ⟨lo + 1, 0, none⟩) ((k2 _ (by show lo + 1 ≠ lo + 2; omega)).trans (k _ (by show lo + 1 ≤ lo + 2; omega)))).trans h.r1
    r1f := (World.frozen?_of_block (a := ⟨lo + 1, 0, none⟩) ((k2 _ (by show lo + 1 ≠ lo + 2; omega)).trans (k _ (by show lo + 1 ≤ lo + 2; omega)))).trans h.r1f
    box := World.cell?_setCell_same' _ _ _ (by rw [c3]; rfl)
    boxf := (World.frozen?_setCell _ _ _ _).trans f3
    row := hr.kept (grownBy_setCell' w' (lo + 2) v') (by
      rcases hv : v'.ownBlock with _ | g
      · exact .inl rfl
      · refine .inr fun e => ?_
        have h1 := (hr.lt g hv).1
        injection e with e
        omega)
    lt := by
      have := hg.size
      simp [World.setCell]
      omega }

/-- five new blocks. -/
theorem five_new (w : World) (lo : Nat) (hlo : w.heap.size = lo) (t0 t1 t2 t3 t4 : TypeId) (c0 c1 c2 c3 c4 : List Value) :
    ∃ W, ((((w.alloc (.cells c0.toArray t0)).alloc (.cells c1.toArray t1)).alloc (.cells c2.toArray t2)).alloc (.cells c3.toArray t3)).alloc (.cells c4.toArray t4) = W ∧ W.heap.size = lo + 5 ∧ Below lo w W ∧
      Lies W lo t0 c0 ∧ Lies W (lo + 1) t1 c1 ∧ Lies W (lo + 2) t2 c2 ∧ Lies W (lo + 3) t3 c3 ∧ Lies W (lo + 4) t4 c4 := by
  obtain ⟨w1, h1⟩ : ∃ W, w.alloc (.cells c0.toArray t0) = W := ⟨_, rfl⟩
  obtain ⟨w2, h2⟩ : ∃ W, w1.alloc (.cells c1.toArray t1) = W := ⟨_, rfl⟩
  obtain ⟨w3, h3⟩ : ∃ W, w2.alloc (.cells c2.toArray t2) = W := ⟨_, rfl⟩
  obtain ⟨w4, h4⟩ : ∃ W, w3.alloc (.cells c3.toArray t3) = W := ⟨_, rfl⟩
  have s1 : w1.heap.size = lo + 1 := by rw [← h1, size_alloc, hlo]
  have s2 : w2.heap.size = lo + 2 := by rw [← h2, size_alloc, s1]
  have s3 : w3.heap.size = lo + 3 := by rw [← h3, size_alloc, s2]
  have s4 : w4.heap.size = lo + 4 := by rw [← h4, size_alloc, s3]
  have l0 : Lies w1 lo t0 c0 := by rw [← h1, ← hlo]; exact lies_new w t0 c0
  have l1 : Lies w2 (lo + 1) t1 c1 := by rw [← h2, ← s1]; exact lies_new w1 t1 c1
  have l2 : Lies w3 (lo + 2) t2 c2 := by rw [← h3, ← s2]; exact lies_new w2 t2 c2
  have l3 : Lies w4 (lo + 3) t3 c3 := by rw [← h4, ← s3]; exact lies_new w3 t3 c3
  have b1 : Below lo w w1 := by rw [← h1]; exact (Below.refl _ _).alloc (by omega) _
  have b2 : Below (lo + 1) w1 w2 := by rw [← h2]; exact (Below.refl _ _).alloc (by omega) _
  have b3 : Below (lo + 2) w2 w3 := by rw [← h3]; exact (Below.refl _ _).alloc (by omega) _
  have b4 : Below (lo + 3) w3 w4 := by rw [← h4]; exact (Below.refl _ _).alloc (by omega) _
  have b5 : Below (lo + 4) w4 (w4.alloc (.cells c4.toArray t4)) := (Below.refl _ _).alloc (by omega) _
  have l4 : Lies (w4.alloc (.cells c4.toArray t4)) (lo + 4) t4 c4 := by rw [← s4]; exact lies_new w4 t4 c4
  rw [h1, h2, h3, h4]
  exact ⟨_, rfl, by rw [size_alloc, s4], (((b1.trans (b2.mono (by omega))).trans (b3.mono (by omega))).trans (b4.mono (by omega))).trans (b5.mono (by omega)),
    (((l0.below b2 (by omega)).below b3 (by omega)).below b4 (by omega)).below b5 (by omega), ((l1.below b3 (by omega)).below b4 (by omega)).below b5 (by omega), (l2.below b4 (by omega)).below b5 (by omega), l3.below b5 (by omega), l4⟩

/-- two results stored side by side. -/
theorem two_results {W W2 : World} {lo : Nat} {u b x y : Value} (a0 : W.cell? ⟨lo, 0, none⟩ = some x) (a2 : W.cell? ⟨lo + 1, 0, none⟩ = some y) (h : (W.setCell ⟨lo, 0, none⟩ u).setCell ⟨lo + 1, 0, none⟩ b = W2) :
    W2.heap.size = W.heap.size ∧ (∀ z, z ≠ lo → z ≠ lo + 1 → W2.heap[z]? = W.heap[z]?) ∧ W2.cell? ⟨lo, 0, none⟩ = some u ∧ W2.cell? ⟨lo + 1, 0, none⟩ = some b ∧ Below lo W W2 := by
  subst h
  refine ⟨by simp [World.setCell], fun z h1 h2 => (Below.heap_setCell _ _ _ _ (by show z ≠ lo + 1; omega)).trans (Below.heap_setCell _ _ _ _ (by show z ≠ lo; omega)), ?_, ?_, ?_⟩
  · exact (World.cell?_of_block (a := ⟨lo, 0, none⟩) (Below.heap_setCell _ _ _ _ (by show lo ≠ lo + 1; omega))).trans (World.cell?_setCell_same' _ _ _ (by rw [a0]; rfl))
  · exact World.cell?_setCell_same' _ _ _ (by rw [show (W.setCell ⟨lo, 0, none⟩ u).cell? ⟨lo + 1, 0, none⟩ = _ from (World.cell?_of_block (a := ⟨lo + 1, 0, none⟩) (Below.heap_setCell _ _ _ _ (by show lo + 1 ≠ lo; omega))).trans a2]; rfl)
  · exact ((Below.refl lo W).setCell (p := ⟨lo, 0, none⟩) (Nat.le_refl _) _).setCell (p := ⟨lo + 1, 0, none⟩) (by show lo ≤ lo + 1; omega) _

set_option maxRecDepth 100000 in
set_option maxHeartbeats 3200000 in
theorem joined_any (A : Option Addr) (n c : Nat) (V : Nat → Nat) (w : World) (hn : n ≤ 4000000) (hA : A = none → n = 0 ∧ c = 0) (hc : n ≤ c) (ho : Bys w w.heap.size A n V) (ht : Tabs w) :
    Calls Tryd.prog 36 #[.slice A n c] w fun e w' => Below w.heap.size w w' ∧ ∃ v b, e = .returned (.tuple #[v, .bool b]) ∧ (b = false → ∀ m, ¬ Joined n V m) ∧
      (b = true → ∃ m, Joined n V m ∧ w'.ownsRow w.heap.size 5 1 v (256 * m) (ycells (bodyV V) (256 * m))) := by
  have HT := Lib.hid ht
  have HO := Lib.hid ho
  have HV := Lib.hid (show ∀ k, k < n → V k < 256 from fun k hk => (ho k hk).elim fun _ h => h.2.2.2)
  clear ht ho
  obtain ⟨lo, hlo⟩ : ∃ lo, w.heap.size = lo := ⟨_, rfl⟩
  rw [hlo] at HO ⊢
  refine (callsIn_wide (n := 0)).1 ?_
  refine callsIn_of_wp_marks Tryd.func36 rfl trivial ?_ rfl
  simp only [Tryd.ntmps36, List.size_toArray, List.length_cons, List.length_nil, Nat.reduceAdd, Nat.reduceSub, Array.replicate_succ, Array.replicate_zero, List.push_toArray, List.append_toArray, List.nil_append, List.cons_append]
  gi_wp2_with (refine ⟨trivial, rfl, ?_⟩; gi_at_call 48; refine (callsIn_wide.2 (chunk_any A n c 264 _ (by decide))).mono ?_; rintro e w' ⟨rfl, rfl⟩)
  obtain ⟨wE, hwE, hzE, hBE, L0, L1, L2, L3, L4⟩ := five_new w lo hlo 31 4 31 31 3 [.slice none 0 0] [.bool false] [.slice none 0 0] [.slice A n c] [.int .i64 264]
  have x1 := L3.cell 0
  have x2 := L4.cell 0
  obtain ⟨ad, hA2, hG⟩ : ∃ ad : Addr, (0 < n → A = some ad) ∧ Gives Tryd.prog 54 #[.pointer (some ⟨lo + 3, 0, none⟩), .pointer (some ⟨lo + 3 + 1, 0, none⟩)] (fun i : Nat => #[partAt ad n 264 i]) (fun i x _ => x = i) (partsIn n 264) Quiet (fun A A' => A'.heap[lo + 3]? = A.heap[lo + 3]? ∧ A'.heap[lo + 3 + 1]? = A.heap[lo + 3 + 1]?) wE := by
    rcases A with _ | ad
    · obtain ⟨rfl, _⟩ : n = 0 ∧ c = 0 := hA rfl
      exact ⟨⟨0, 0, none⟩, fun h => absurd h (Nat.lt_irrefl _), chunk_gives_none _ none c 264 (lo + 3) (lo + 3 + 1) wE (by decide) (by omega) x1⟩
    · exact ⟨ad, fun _ => rfl, chunk_gives ad n c 264 (lo + 3) (lo + 3 + 1) wE (by decide) hn hc (by omega) (by omega) x1 x2⟩
  have hJ0 : JIn lo 0 V (.slice none 0 0) wE := ⟨L0.cell 0, L0.free 0, L1.cell 0, L1.free 0, L2.cell 0, L2.free 0, World.ownsRow_nil _ _ _ _, by omega⟩
  have hP : ∀ k, k < partsIn n 264 ↔ 264 * k < n := fun k => by
    unfold partsIn
    omega
  have HP := Lib.hid hP
  have HPA := Lib.hid hA2
  clear hA hA2 L0 L1 L2 L3 L4 x1 x2 hP
  obtain ⟨N, hN⟩ : ∃ N, partsIn n 264 = N := ⟨_, rfl⟩
  rw [hN] at HP hG
  clear hN
  rw [hwE, show lo + 1 + 1 + 1 + 1 = lo + 3 + 1 from rfl, show lo + 1 + 1 + 1 = lo + 3 from rfl, show lo + 1 + 1 = lo + 2 from rfl]
  clear hwE
  obtain ⟨i0, hi0, hz0, hs0, hb0⟩ := info_parts info_u8
  have HTk : ∀ W' : World, Below lo w W' → Tabs W' := fun W' hb => HT.out.keep (by rw [hlo]; exact hb)
  refine range_law (gf := 54) (lb := #[.pointer (some ⟨lo + 3, 0, none⟩), .pointer (some ⟨lo + 3 + 1, 0, none⟩)]) rfl (enters_of Tryd.func54 (by kernel_rfl) rfl) hG (fun _ => rfl)
    (Off fun z => lo + 3 ≤ z ∧ z < lo + 7) (fun j W' => Hid (∃ v, JIn lo j V v W') ∧ Hid (∀ p, p < j → PageGood n V p) ∧ Hid (Below lo w W'))
    (fun c' W' => c' = .ret ∧ Hid (W'.cell? ⟨lo, 0, none⟩ = some (.slice none 0 0) ∧ W'.cell? ⟨lo + 1, 0, none⟩ = some (.bool false) ∧ lo + 5 ≤ W'.heap.size) ∧ Hid (∀ m, ¬ Joined n V m) ∧ Hid (Below lo w W'))
    (fun A A' h z _ _ _ => by rw [h.heap]) (fun A A' h z h1 h2 h3 => h.block z h3 (by omega)) ?kp ?inv ?ix (fun _ _ _ _ _ h _ _ => h) ⟨Lib.hid ⟨_, hJ0⟩, Lib.hid (fun p h => absurd h (Nat.not_lt_zero p)), Lib.hid hBE⟩
    (fun j => { tmps := #[.slice A n c, undef, .pointer (some ⟨lo, 0, none⟩), .pointer (some ⟨lo + 1, 0, none⟩), .pointer (some ⟨lo + 2, 0, none⟩), partAt ad n 264 j, undef, undef, undef, .slice A n c, .func (.func 54) #[] #[.pointer (some ⟨lo + 3, 0, none⟩), .pointer (some ⟨lo + 3 + 1, 0, none⟩)], partAt ad n 264 j, undef, undef, undef, undef, undef, undef, undef, undef, undef, undef, undef, undef, undef, undef, undef, undef, undef, undef, undef, undef, undef, undef], defers := [] }) ?assign ?body ?done ?stop
  case kp =>
    intro X Y Z T hs h1 h2 h3
    rw [hzE] at h1 h3
    have hs1 := h1.size
    have hs2 := h2.size
    exact ⟨(h3.block (lo + 3) (by omega) (fun e => by injection e with e; omega)).trans ((h2.block (lo + 3) (by omega) (by omega)).trans (h1.block (lo + 3) (by omega) (fun e => by injection e with e; omega))), (h3.block (lo + 3 + 1) (by omega) (fun e => by injection e with e; omega)).trans ((h2.block (lo + 3 + 1) (by omega) (by omega)).trans (h1.block (lo + 3 + 1) (by omega) (fun e => by injection e with e; omega)))⟩
  case inv =>
    rintro j X X' ⟨h1, h2, h3⟩ h
    obtain ⟨v, hv⟩ := h1.out
    have hl := hv.lt
    rw [hzE] at h
    rcases h with h | h
    · exact ⟨Lib.hid ⟨v, hv.grown h (fun z e => by cases e; omega)⟩, h2, Lib.hid (h3.out.trans (below_row h (by omega) (fun z e => by cases e; omega)))⟩
    · exact ⟨Lib.hid ⟨v, hv.grown (row := none) (grownBy_of_below (h.below _) _) (fun z e => by cases e)⟩, h2, Lib.hid (h3.out.trans (h.below _))⟩
  case ix =>
    rintro c' X X' ⟨h1, h2, h3, h4⟩ h
    obtain ⟨q0, q1, q2⟩ := h2.out
    have hb : Below (lo + 5) X X' := by
      rw [hzE] at h
      rcases h with h | h
      · exact below_row h q2 (fun z e => by cases e; omega)
      · exact h.below _
    exact ⟨h1, Lib.hid ⟨(hb.cell (p := ⟨lo, 0, none⟩) (by show lo < lo + 5; omega)).trans q0, (hb.cell (p := ⟨lo + 1, 0, none⟩) (by show lo + 1 < lo + 5; omega)).trans q1, Nat.le_trans q2 hb.size⟩, h3, Lib.hid (h4.out.trans (hb.mono (by omega)))⟩
  case assign =>
    intro l' x W' K hK
    gi_wp2
    exact hK
  case body =>
    rintro l' j x W' hsz hj rfl ⟨hJ, hgood, hb⟩
    obtain ⟨v, hJv⟩ := hJ.out
    clear hJ
    have hxn : 264 * x < n := (HP.out x).1 hj
    have hAd : A = some ad := HPA.out (by omega)
    have hBy := HO.out.below hb.out
    rw [hAd] at hBy
    obtain ⟨q, hq⟩ : ∃ q, partLen n 264 x = q := ⟨_, rfl⟩
    have hq2 : min 264 (n - 264 * x) = q := hq
    obtain ⟨ad3, had3⟩ : ∃ a3, ad.add (264 * x) = a3 := ⟨_, rfl⟩
    have hpt : partAt ad n 264 x = .slice (some ad3) q q := by unfold partAt; rw [hq, had3]
    have hl := hJv.lt
    have hBy2 : Bys W' W'.heap.size (some ad3) q (pageV V x) := by
      rw [← had3]
      exact Bys.cut_ (hBy.mono_ (by omega)) (by omega)
    have HG := Lib.hid (get_form ad3 q q (pageV V x) W' (Nat.le_refl _) hBy2 (HTk W' hb.out))
    have HQ : Hid ((q = 264 ∧ Pl.Ends (pageV V x) 260 ∧ numberOf (pageV V x) < 4096) ↔ (264 * x + 264 ≤ n ∧ Pl.Ends (pageV V x) 260 ∧ numberOf (pageV V x) < 4096)) := Lib.hid (by
      have h : q = 264 ↔ 264 * x + 264 ≤ n := by omega
      rw [h])
    have hVx : ∀ z, z < 256 * x → bodyV V z < 256 := bodyV_lt HV.out (by omega)
    obtain ⟨Y, cy, hvY, hYA, hYc, hYo⟩ := row_bys hJv.row hVx
    obtain ⟨kx, hkx⟩ : ∃ kx, 256 * x = kx := ⟨_, rfl⟩
    rw [hkx] at hvY
    subst hvY
    have HKx := Lib.hid hkx
    have HJv := Lib.hid hJv
    have HNj : ¬ PageGood n V x → Hid (∀ m, ¬ Joined n V m) := fun h => Lib.hid fun m => no_join hxn h
    obtain ⟨M, hM⟩ : ∃ M, numberOf (pageV V x) = M := ⟨_, rfl⟩
    have HM := Lib.hid hM
    rw [hM] at HG HQ
    rw [hpt]
    -- stores of the two results, in any world in which they lie
    have fin : ∀ W2 : World, Below W'.heap.size W' W2 → JIn lo x V (.slice Y kx cy) W2 → ¬ PageGood n V x → roundOut (Off fun z => lo + 3 ≤ z ∧ z < lo + 7) (fun W' => Hid (∃ v, JIn lo (x + 1) V v W') ∧ Hid (∀ p, p < x + 1 → PageGood n V p) ∧ Hid (Below lo w W'))
        (fun c' W' => c' = .ret ∧ Hid (W'.cell? ⟨lo, 0, none⟩ = some (.slice none 0 0) ∧ W'.cell? ⟨lo + 1, 0, none⟩ = some (.bool false) ∧ lo + 5 ≤ W'.heap.size) ∧ Hid (∀ m, ¬ Joined n V m) ∧ Hid (Below lo w W')) W' .ret { tmps := #[], defers := [] } ((W2.setCell ⟨lo, 0, none⟩ (.slice none 0 0)).setCell ⟨lo + 1, 0, none⟩ (.bool false)) := fun W2 hb2 hJ2 hng => by
      obtain ⟨r1, r2, r3, r4, r5⟩ := two_results (u := .slice none 0 0) (b := .bool false) hJ2.r0 hJ2.r1 rfl
      have hs2 := hb2.size
      exact ⟨(Off.call hb2).trans ((Off.setCell (by show ¬ (lo + 3 ≤ lo ∧ lo < lo + 7); omega) _).trans (Off.setCell (by show ¬ (lo + 3 ≤ lo + 1 ∧ lo + 1 < lo + 7); omega) _)), rfl, Lib.hid ⟨r3, r4, by omega⟩, HNj hng, Lib.hid ((hb.out.trans (hb2.mono (by omega))).trans r5)⟩
    clear hpt hq hq2 hBy hBy2 hYA hYc hYo hJv hVx had3 hM hAd
    gi_wp2
    refine ⟨trivial, rfl, (CallsIn.inRound l' (callsIn_wide.2 HG.out)).mono ?_⟩
    rintro e w2 ⟨hb2, h⟩
    have hJ2 := HJv.out.grown (row := none) (grownBy_of_below hb2 _) (fun z e => by cases e)
    have hbx := hJ2.box
    have a0 := hJ2.r0
    have a1 := hJ2.r0f
    have a2 := hJ2.r1
    have a3 := hJ2.r1f
    have HJ2 := Lib.hid hJ2
    clear hJ2
    rcases h with ⟨hbad, er, her, rfl⟩ | ⟨hok, v2, rfl, hv2⟩
    · have hng : ¬ PageGood n V x := fun h => hbad (HQ.out.2 ⟨h.1, h.2.2.1, by have h1 := h.2.2.2; have h2 := HM.out; have h3 := h.2.1; omega⟩)
      clear hbad
      gi_wp2
      exact fin w2 hb2 HJ2.out hng
    · obtain ⟨g2, c2, rfl⟩ := Joins.ownsRow_form hv2 (by omega)
      obtain ⟨kM, hkM⟩ : ∃ kM, 256 * M = kM := ⟨_, rfl⟩
      have hM4 := hok.2.2
      have e1 : IntKind.i64.wrap ((M : Int) * 256) = (kM : Int) := by rw [IntWalk.i64_in _ (by omega)]; omega
      have HOk := Lib.hid (HQ.out.1 hok)
      have HV2 := Lib.hid hv2
      clear hok hv2
      by_cases hMx : M = x
      · have hkk : kM = kx := by omega
        subst hkk
        have HGd : Hid (∀ p, p < x + 1 → PageGood n V p) := Lib.hid fun p hp => by
          by_cases h : p < x
          · exact hgood.out p h
          · obtain rfl : p = x := by omega
            exact ⟨HOk.out.1, by omega, HOk.out.2.1, by rw [HM.out]; exact hMx⟩
        have HRow := Lib.hid (show w2.ownsRow (lo + 7) 5 1 (.slice Y kM cy) kM (ycells (bodyV V) kM) by
          have h := HJ2.out.row
          rw [HKx.out] at h
          exact h)
        have hkl : kM ≤ 4194304 := by omega
        have hs2 := hb2.size
        clear hkx hkM hMx
        gi_wp2_with (gi_at_builtin; refine wpListIn_append_own _ rfl (.tmp 27) (.tmp 28) 31 rfl (lo + 7) 5 i0 (.int .u8 0) 1 1 Tryd.underlying31 hi0 hz0 hs0 hb0 rfl (by decide) _ kM _ rfl HRow.out ⟨g2, 0, none⟩ 256 c2 (ycells (pageV V x) 256) rfl (by rw [ycells_length]) (fun z u hz => HV2.out.cells rfl z u hz) (ycells_one _ _) (by unfold maxLen; omega) (by omega) (by omega) ?_; intro v3 w3 hr3 hg3 _; obtain ⟨g3, cc3, rfl⟩ := Joins.ownsRow_form hr3 (by omega); have HR3 := Lib.hid hr3; have HG3 := Lib.hid hg3; obtain ⟨c3, f3, hJ3⟩ := HJ2.out.laid (v' := .slice (some ⟨g3, 0, none⟩) (kM + 256) cc3) hg3 (by have h := hr3; rw [← HKx.out, body_next] at h; rw [← HKx.out]; exact h); have HJ3 := Lib.hid hJ3)
        have hR3 : Off (fun z => lo + 3 ≤ z ∧ z < lo + 7) W' (w3.setCell ⟨lo + 2, 0, none⟩ (.slice (some ⟨g3, 0, none⟩) (kM + 256) cc3)) :=
          ((Off.call hb2).trans (Off.grown HG3.out (fun z e => by have := (HRow.out.lt z e).1; omega))).trans (Off.setCell (by show ¬ (lo + 3 ≤ lo + 2 ∧ lo + 2 < lo + 7); omega) _)
        have hB3 : Below lo w (w3.setCell ⟨lo + 2, 0, none⟩ (.slice (some ⟨g3, 0, none⟩) (kM + 256) cc3)) :=
          ((hb.out.trans (hb2.mono (by omega))).trans (below_row HG3.out (by omega) (fun z e => by have := (HRow.out.lt z e).1; omega))).setCell (p := ⟨lo + 2, 0, none⟩) (by show lo ≤ lo + 2; omega) _
        exact ⟨hR3, Lib.hid ⟨_, HJ3.out⟩, HGd, Lib.hid hB3⟩
      · have hne : ((kM : Int) == (kx : Int)) = false := by rw [beq_eq_false_iff_ne]; omega
        have hng : ¬ PageGood n V x := fun h => hMx (by have h1 := h.2.2.2; have h2 := HM.out; omega)
        clear hkx hkM
        gi_wp2
        exact fin w2 hb2 HJ2.out hng
  case done =>
    rintro D W' hD ⟨hJ, hgood, hb⟩ hK
    obtain ⟨v, hJv⟩ := hJ.out
    have hDl := (Array.getElem?_eq_some_iff.1 hK).1
    have hN4 : 264 * N ≤ n ∧ N ≤ 4096 := by
      by_cases h : N = 0
      · omega
      · have h1 := hgood.out (N - 1) (by omega)
        have h2 := h1.1
        have h3 := h1.2.1
        omega
    have hNn : n = 264 * N := by
      have h := HP.out N
      omega
    have hVx : ∀ z, z < 256 * N → bodyV V z < 256 := bodyV_lt HV.out hN4.1
    obtain ⟨Y, cy, hvY, hYA, hYc, hYo⟩ := row_bys hJv.row hVx
    obtain ⟨kN, hkN⟩ : ∃ kN, 256 * N = kN := ⟨_, rfl⟩
    rw [hkN] at hvY
    subst hvY
    have hbx : W'.drew.cell? ⟨lo + 2, 0, none⟩ = some (.slice Y kN cy) := hJv.box
    have a0 : W'.drew.cell? ⟨lo, 0, none⟩ = some (.slice none 0 0) := hJv.r0
    have a1 : W'.drew.frozen? ⟨lo, 0, none⟩ = false := hJv.r0f
    have a2 : W'.drew.cell? ⟨lo + 1, 0, none⟩ = some (.bool false) := hJv.r1
    have a3 : W'.drew.frozen? ⟨lo + 1, 0, none⟩ = false := hJv.r1f
    have hl := hJv.lt
    have b2 : (W'.setCell ⟨lo, 0, none⟩ (.slice Y kN cy)).drew.cell? ⟨lo + 1, 0, none⟩ = some (.bool false) := (World.cell?_of_block (w := W') (a := ⟨lo + 1, 0, none⟩) (Below.heap_setCell _ _ _ _ (by show lo + 1 ≠ lo; omega))).trans a2
    have b3 : (W'.setCell ⟨lo, 0, none⟩ (.slice Y kN cy)).drew.frozen? ⟨lo + 1, 0, none⟩ = false := (World.frozen?_setCell _ _ _ _).trans a3
    have b4 : (W'.setCell ⟨lo, 0, none⟩ (.slice Y kN cy)).drew.cell? ⟨lo + 2, 0, none⟩ = some (.slice Y kN cy) := (World.cell?_of_block (w := W') (a := ⟨lo + 2, 0, none⟩) (Below.heap_setCell _ _ _ _ (by show lo + 2 ≠ lo; omega))).trans hbx
    have hdec : decide (0 < kN) = decide (0 < N) := by
      by_cases h : 0 < N
      · rw [decide_eq_true h, decide_eq_true (by omega)]
      · rw [decide_eq_false h, decide_eq_false (by omega)]
    have HRow := Lib.hid hJv.row
    have HGd : Hid (0 < N → Joined n V N) := Lib.hid fun h => ⟨h, hN4.2, hNn, hgood.out⟩
    have HNo : Hid (¬ 0 < N → ∀ m, ¬ Joined n V m) := Lib.hid fun h m hm => by
      have h1 := hm.1
      have h2 := hm.2.2.1
      omega
    clear hYA hYc hYo hVx hJv
    gi_wp2
    gi_region
    gi_wp2
    obtain ⟨r1, r2, r3, r4, r5⟩ := two_results (W := W') (u := .slice Y kN cy) (b := .bool (decide (0 < N))) a0 a2 rfl
    generalize (W'.setCell ⟨lo, 0, none⟩ (.slice Y kN cy)).setCell ⟨lo + 1, 0, none⟩ (.bool (decide (0 < N))) = W2 at r1 r2 r3 r4 r5 ⊢
    have hrow2 : W2.drew.ownsRow lo 5 1 (.slice Y kN cy) (256 * N) (ycells (bodyV V) (256 * N)) := by
      have h0 := HRow.out
      rcases h0.2 with ⟨hv, hn0⟩ | ⟨g, cap, cur, hv, hg1, hg2, h3⟩
      · exact ⟨h0.1, .inl ⟨hv, hn0⟩⟩
      · exact ⟨h0.1, .inr ⟨g, cap, cur, hv, by omega, (r2 g (by omega) (by omega)).trans hg2, h3⟩⟩
    have hK2 : W2.drew.heap[D]? = some (.deferred (some [])) := (r2 D (by omega) (by omega)).trans hK
    have hb2 : Below (lo + 5) W2.drew (W2.drew.putObj D (.deferred none)) := below_row (grownBy_putObj' _ D _) (by show lo + 5 ≤ W2.heap.size; omega) (fun z e => by cases e; omega)
    have b0 : (W2.drew.putObj D (.deferred none)).cell? ⟨lo, 0, none⟩ = _ := (hb2.cell (p := ⟨lo, 0, none⟩) (by show lo < lo + 5; omega)).trans r3
    have b1 : (W2.drew.putObj D (.deferred none)).cell? ⟨lo + 1, 0, none⟩ = _ := (hb2.cell (p := ⟨lo + 1, 0, none⟩) (by show lo + 1 < lo + 5; omega)).trans r4
    have hrow3 := ownsRow_putObj hrow2 (.deferred none) hK2 rfl
    have hB3 : Below lo w (W2.drew.putObj D (.deferred none)) := ((hb.out.trans r5).drew).trans (hb2.mono (by omega))
    refine ⟨by simp, .inl ⟨_, _, rfl, run_takeDeferred hK2, ?_⟩⟩
    exact ⟨.tuple #[.slice Y kN cy, .bool (decide (0 < N))], by simp [results, Tryd.results36, go_sem, b0, b1], hB3, _, _, rfl, fun h => HNo.out (by simpa using h), fun h => ⟨N, HGd.out (by simpa using h), hrow3⟩⟩
  case stop =>
    rintro D c' W' hD ⟨rfl, hc, hno, hb⟩ hK
    have hDl := (Array.getElem?_eq_some_iff.1 hK).1
    obtain ⟨q0, q1, q2⟩ := hc.out
    gi_wp2
    have hM : Marks (lo + 5) W'.heap.size ({ target := .collected D, args := #[] } :: []) W' := ⟨D, rfl, by omega, by omega, hK, trivial⟩
    exact hM.out (by omega) fun w' hw' => by
      have b0 := (hw'.cell (p := ⟨lo, 0, none⟩) (by show lo < lo + 5; omega)).trans q0
      have b1 := (hw'.cell (p := ⟨lo + 1, 0, none⟩) (by show lo + 1 < lo + 5; omega)).trans q1
      exact ⟨.tuple #[.slice none 0 0, .bool false], by simp [results, Tryd.results36, go_sem, b0, b1], hb.out.trans (hw'.mono (by omega)), _, _, rfl, fun _ => hno.out, fun h => (by cases h)⟩
end Go.Proofs.YtjmajminfmcjcaaDoor
