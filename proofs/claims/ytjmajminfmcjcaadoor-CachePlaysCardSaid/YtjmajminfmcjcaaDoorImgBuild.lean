/- The contract of image.Build: an image of sections. -/
import Derived.Test.YtjmajminfmcjcaaDoorImgParts
namespace Go.Proofs.YtjmajminfmcjcaaDoor
open Go.RowKit Go.Shelf

attribute [local go_sem] Oper.semAt_some

/-- a row in a block that has not turned. -/
theorem row_low {w w' : World} {B : Nat} {t : TypeId} {z g cap n m : Nat} {cs : List Value} (h : w.ownsRow B t z (.slice (some ⟨g, 0, none⟩) n cap) m cs) (hg : w'.heap[g]? = w.heap[g]?) : w'.ownsRow B t z (.slice (some ⟨g, 0, none⟩) n cap) m cs := by
  refine ⟨h.1, ?_⟩
  rcases h.2 with ⟨h0, _⟩ | ⟨g', cap', cur, hv, h1, h2, h3⟩
  · cases h0
  · refine .inr ⟨g', cap', cur, hv, h1, ?_, h3⟩
    have e : g = g' := by
      simp only [Value.slice.injEq, Option.some.injEq, Addr.mk.injEq] at hv
      exact hv.1.1
    subst e
    exact hg.trans h2

/-- Build's own memory, i pages being laid: the two results, the row, its box. -/
structure BIn (lo cap i : Nat) (S : List Sec) (w : World) : Prop where
  r0 : w.cell? ⟨lo, 0, none⟩ = some (.slice none 0 0)
  r0f : w.frozen? ⟨lo, 0, none⟩ = false
  r1 : w.cell? ⟨lo + 1, 0, none⟩ = some (.int .i64 0)
  r1f : w.frozen? ⟨lo + 1, 0, none⟩ = false
  box : w.cell? ⟨lo + 3, 0, none⟩ = some (.slice (some ⟨lo + 2, 0, none⟩) (264 * i : Nat) cap)
  boxf : w.frozen? ⟨lo + 3, 0, none⟩ = false
  row : w.ownsRow lo 5 1 (.slice (some ⟨lo + 2, 0, none⟩) (264 * i : Nat) cap) (264 * i) (ycells (imageOf S) (264 * i))
  lt : lo + 5 ≤ w.heap.size
theorem BIn.keep {lo cap i T : Nat} {S : List Sec} {w w' : World} (h : BIn lo cap i S w) (hb : Below T w w') (hT : lo + 4 ≤ T) : BIn lo cap i S w' :=
  ⟨(hb.cell (p := ⟨lo, 0, none⟩) (by show lo < T; omega)).trans h.r0, (hb.frozen (p := ⟨lo, 0, none⟩) (by show lo < T; omega)).trans h.r0f, (hb.cell (p := ⟨lo + 1, 0, none⟩) (by show lo + 1 < T; omega)).trans h.r1, (hb.frozen (p := ⟨lo + 1, 0, none⟩) (by show lo + 1 < T; omega)).trans h.r1f,
    (hb.cell (p := ⟨lo + 3, 0, none⟩) (by show lo + 3 < T; omega)).trans h.box, (hb.frozen (p := ⟨lo + 3, 0, none⟩) (by show lo + 3 < T; omega)).trans h.boxf, row_low h.row (hb.block _ (by omega)), Nat.le_trans h.lt hb.size⟩

/-- a page laid behind, and the box turned. -/
theorem BIn.laid {lo cap i j : Nat} {S : List Sec} {w w' : World} (h : BIn lo cap i S w) (hg : w.grownBy w' (some (lo + 2)))
    (hr : w'.ownsRow lo 5 1 (.slice (some ⟨lo + 2, 0, none⟩) (264 * i + 264 : Nat) cap) (264 * i + 264) (ycells (imageOf S) (264 * i + 264))) (hj : j = i + 1) :
    w'.cell? ⟨lo + 3, 0, none⟩ = some (.slice (some ⟨lo + 2, 0, none⟩) (264 * i : Nat) cap) ∧ w'.frozen? ⟨lo + 3, 0, none⟩ = false ∧ BIn lo cap j S (w'.setCell ⟨lo + 3, 0, none⟩ (.slice (some ⟨lo + 2, 0, none⟩) (264 * i + 264 : Nat) cap)) := by
  subst hj
  have hs := hg.size
  have hl := h.lt
  have k1 : ∀ z, z ≠ lo + 2 → z < w.heap.size → w'.heap[z]? = w.heap[z]? := fun z h1 h2 => hg.block z h2 (fun e => by injection e with e; omega)
  have k2 : ∀ z, z ≠ lo + 3 → (w'.setCell ⟨lo + 3, 0, none⟩ (.slice (some ⟨lo + 2, 0, none⟩) (264 * i + 264 : Nat) cap)).heap[z]? = w'.heap[z]? := fun z h1 => Below.heap_setCell _ _ _ _ h1
  have c3 : w'.cell? ⟨lo + 3, 0, none⟩ = some (.slice (some ⟨lo + 2, 0, none⟩) (264 * i : Nat) cap) := (World.cell?_of_block (a := ⟨lo + 3, 0, none⟩) (k1 _ (by show lo + 3 ≠ lo + 2; omega) (by show lo + 3 < _; omega))).trans h.box
  have f3 : w'.frozen? ⟨lo + 3, 0, none⟩ = false := (World.frozen?_of_block (a := ⟨lo + 3, 0, none⟩) (k1 _ (by show lo + 3 ≠ lo + 2; omega) (by show lo + 3 < _; omega))).trans h.boxf
  refine ⟨c3, f3, ?_⟩
  exact {
    r0 := (World.cell?_of_block (a := ⟨lo, 0, none⟩) ((k2 _ (by show lo ≠ lo + 3; omega)).trans (k1 _ (by show lo ≠ lo + 2; omega) (by show lo < _; omega)))).trans h.r0
    r0f := (World.frozen?_of_block (a := ⟨lo, 0, none⟩) ((k2 _ (by show lo ≠ lo + 3; omega)).trans (k1 _ (by show lo ≠ lo + 2; omega) (by show lo < _; omega)))).trans h.r0f
    r1 := (World.cell?_of_block (a := ⟨lo + 1, 0, none⟩) ((k2 _ (by show lo + 1 ≠ lo + 3; omega)).trans (k1 _ (by show lo + 1 ≠ lo + 2; omega) (by show lo + 1 < _; omega)))).trans h.r1
    r1f := (World.frozen?_of_block (a := ⟨lo + 1, 0, none⟩) ((k2 _ (by show lo + 1 ≠ lo + 3; omega)).trans (k1 _ (by show lo + 1 ≠ lo + 2; omega) (by show lo + 1 < _; omega)))).trans h.r1f
    box := World.cell?_setCell_same' _ _ _ (by rw [c3]; rfl)
    boxf := (World.frozen?_setCell _ _ _ _).trans f3
    row := row_low hr (k2 _ (by omega))
    lt := by simp [World.setCell]; omega }

set_option maxRecDepth 100000 in
theorem build_many (P : Option Addr) (k c : Nat) (w : World) (hk : 60 < k) : Calls Tryd.prog 18 #[.slice P k c] w fun e w' => e = .returned (.tuple #[.slice none 0 0, .int .i64 80]) ∧ Below w.heap.size w w' := by
  have hd : decide ((60 : Int) < (k : Int)) = true := by simp; omega
  go_enter Tryd.func18, Tryd.ntmps18
  go_wp2_with fail
  have l0 := (lies_new w 31 [.slice none 0 0]).alloc (.cells #[.int .i64 80] 32)
  have l1 := lies_new (w.alloc (.cells #[.slice none 0 0] 31)) 32 [.int .i64 80]
  rw [size_alloc] at l1
  have g0 := l0.cell 0
  have g1 := l1.cell 0
  exact bodyPost_ret (v := .tuple #[.slice none 0 0, .int .i64 80]) (by simp [results, Tryd.results18, go_sem, g0, g1]) rfl ⟨rfl, ((Below.refl _ _).alloc (Nat.le_refl _) _).alloc (by rw [size_alloc]; omega) _⟩

set_option maxRecDepth 100000 in
theorem build_over (P : Option Addr) (c : Nat) (L : List Part) (w : World) (hL : L.length ≤ 60) (hall : 4096 < allPages (secsP L)) (ho : Secs w w.heap.size P L) : Calls Tryd.prog 18 #[.slice P L.length c] w fun e w' => e = .returned (.tuple #[.slice none 0 0, .int .i64 80]) ∧ Below w.heap.size w w' := by
  have hb : Below w.heap.size w ((w.alloc (.cells #[.slice none 0 0] 31)).alloc (.cells #[.int .i64 0] 32)) := ((Below.refl _ _).alloc (Nat.le_refl _) _).alloc (by rw [size_alloc]; omega) _
  have HPg := Lib.hid (pagesOf_any P c L w.heap.size ((w.alloc (.cells #[.slice none 0 0] 31)).alloc (.cells #[.int .i64 0] 32)) hL (ho.below hb))
  have hm := startAt_most (secsP L) ho.most (secsP L).length (Nat.le_refl _)
  obtain ⟨N, hN⟩ : ∃ N, allPages (secsP L) = N := ⟨_, rfl⟩
  obtain ⟨k, hk⟩ : ∃ k, L.length = k := ⟨_, rfl⟩
  rw [hN] at HPg hall
  rw [hk] at HPg hL ⊢
  have hd : decide ((60 : Int) < (k : Int)) = false := by simp; omega
  have hd2 : decide ((4096 : Int) < (N : Int)) = true := by simp; omega
  clear hk hN hm ho
  go_enter Tryd.func18, Tryd.ntmps18
  go_wp2_with fail
  refine HPg.out.mono ?_
  rintro e w' ⟨rfl, rfl⟩
  go_wp2_with fail
  have l0 := (lies_new w 31 [.slice none 0 0]).alloc (.cells #[.int .i64 80] 32)
  have l1 := lies_new (w.alloc (.cells #[.slice none 0 0] 31)) 32 [.int .i64 80]
  rw [size_alloc] at l1
  have g0 := l0.cell 0
  have g1 := l1.cell 0
  exact bodyPost_ret (v := .tuple #[.slice none 0 0, .int .i64 80]) (by simp [results, Tryd.results18, go_sem, g0, g1]) rfl ⟨rfl, ((Below.refl _ _).alloc (Nat.le_refl _) _).alloc (by rw [size_alloc]; omega) _⟩

set_option maxRecDepth 100000 in
set_option maxHeartbeats 3200000 in
theorem build_good (P : Option Addr) (c : Nat) (L : List Part) (w : World) (ht : Tabs w) (hL : L.length ≤ 60) (hall : allPages (secsP L) ≤ 4096) (ho : Secs w w.heap.size P L) :
    Calls Tryd.prog 18 #[.slice P L.length c] w fun e w' => ∃ v, e = .returned (.tuple #[v, .int .i64 0]) ∧ w'.ownsRow w.heap.size 5 1 v (264 * allPages (secsP L)) (ycells (imageOf (secsP L)) (264 * allPages (secsP L))) ∧ Below w.heap.size w w' := by
  have HT := Lib.hid ht
  have HO := Lib.hid ho
  clear ht ho
  obtain ⟨lo, hlo⟩ : ∃ lo, w.heap.size = lo := ⟨_, rfl⟩
  obtain ⟨S, hS⟩ : ∃ S, secsP L = S := ⟨_, rfl⟩
  have HS := Lib.hid hS
  obtain ⟨k, hk⟩ : ∃ k, L.length = k := ⟨_, rfl⟩
  have HK := Lib.hid hk
  obtain ⟨N, hN⟩ : ∃ N, allPages S = N := ⟨_, rfl⟩
  have HN := Lib.hid hN
  rw [hS, hN] at hall ⊢
  rw [hk] at hL ⊢
  rw [hlo] at HO ⊢
  clear hS hk hN
  have hd : decide ((60 : Int) < (k : Int)) = false := by simp; omega
  have hd2 : decide ((4096 : Int) < (N : Int)) = false := by simp; omega
  obtain ⟨q, hq⟩ : ∃ q, 264 * N = q := ⟨_, rfl⟩
  have e1 : IntKind.i64.wrap ((N : Int) * 264) = (q : Int) := by rw [IntWalk.i64_in _ (by omega)]; omega
  have hz0 : (w.alloc (.cells #[.slice none 0 0] 31)).heap.size = lo + 1 := by rw [size_alloc, hlo]
  obtain ⟨wA, hwA⟩ : ∃ wA, (w.alloc (.cells #[.slice none 0 0] 31)).alloc (.cells #[.int .i64 0] 32) = wA := ⟨_, rfl⟩
  have hzA : wA.heap.size = lo + 2 := by rw [← hwA, size_alloc, hz0]
  have hbA : Below lo w wA := by rw [← hwA, ← hlo]; exact ((Below.refl _ _).alloc (Nat.le_refl _) _).alloc (by rw [size_alloc]; omega) _
  have l0 : Lies wA lo 31 [.slice none 0 0] := by rw [← hwA, ← hlo]; exact (lies_new w 31 [.slice none 0 0]).alloc _
  have l1 : Lies wA (lo + 1) 32 [.int .i64 0] := by
    have h := lies_new (w.alloc (.cells #[.slice none 0 0] 31)) 32 [.int .i64 0]
    rw [hz0, hwA] at h
    exact h
  have HPg := Lib.hid (pagesOf_any P c L lo wA (by rw [HK.out]; exact hL) (HO.out.below hbA))
  rw [HK.out, HS.out, HN.out] at HPg
  obtain ⟨i0, hi0, hz1, hs1, hb1⟩ := info_parts info_u8
  obtain ⟨C, hC⟩ : ∃ C, madeCells (Value.int .u8 0).cells ((q : Int).toNat * i0.size) = C := ⟨_, rfl⟩
  have hCs : C.size = q * 1 := by rw [← hC, size_madeCells, hs1]; rfl
  have hmk := run_make (P := Tryd.prog) wA 31 5 i0 _ Tryd.underlying31 hi0 hz1 .i64 .i64 0 (q : Int) (by omega) (by omega) (by rw [hb1]; omega) (by omega)
  rw [hC, hzA] at hmk
  simp only [Int.toNat_natCast, Int.toNat_zero] at hmk
  refine (callsIn_wide (n := 0)).1 ?_
  refine callsIn_of_wp_marks Tryd.func18 rfl trivial ?_ rfl
  simp only [Tryd.ntmps18, List.size_toArray, List.length_cons, List.length_nil, Nat.reduceAdd, Nat.reduceSub, Array.replicate_succ, Array.replicate_zero, List.push_toArray, List.append_toArray, List.nil_append, List.cons_append]
  clear hC
  gi_wp2
  refine ⟨trivial, rfl, ?_⟩
  refine (callsIn_wide.2 HPg.out).mono ?_
  rintro e w1 ⟨rfl, rfl⟩
  clear hwA hz0
  gi_wp2
  refine ⟨trivial, rfl, ?_⟩
  refine (callsIn_wide.2 (parts_any P k c _)).mono ?_
  rintro e w1 ⟨rfl, rfl⟩
  obtain ⟨wB, hwB⟩ : ∃ wB, wA.alloc (.cells C 5) = wB := ⟨_, rfl⟩
  have hzB : wB.heap.size = lo + 3 := by rw [← hwB, size_alloc, hzA]
  have hbB : Below (lo + 2) wA wB := by rw [← hwB, ← hzA]; exact (Below.refl _ _).alloc (Nat.le_refl _) _
  have hrB : wB.ownsRow lo 5 1 (.slice (some ⟨lo + 2, 0, none⟩) 0 q) 0 [] := by
    rw [← hwB]
    have h := World.ownsRow_made (base := lo) (e := 5) (size := 1) wA C q (by omega) (by unfold maxLen; omega) hCs
    rw [hzA] at h
    exact h
  rw [hwB]
  clear hwB hmk
  obtain ⟨wD, hwD⟩ : ∃ wD, wB.alloc (.cells #[.slice (some ⟨lo + 2, 0, none⟩) 0 q] 31) = wD := ⟨_, rfl⟩
  have hzD : wD.heap.size = lo + 4 := by rw [← hwD, size_alloc, hzB]
  have hbD : Below (lo + 3) wB wD := by rw [← hwD, ← hzB]; exact (Below.refl _ _).alloc (Nat.le_refl _) _
  have lD : Lies wD (lo + 3) 31 [.slice (some ⟨lo + 2, 0, none⟩) 0 q] := by rw [← hwD, ← hzB]; exact lies_new wB 31 [.slice (some ⟨lo + 2, 0, none⟩) 0 q]
  rw [hwD]
  clear hwD
  obtain ⟨wE, hwE⟩ : ∃ wE, wD.alloc (.cells #[.slice P k c] 74) = wE := ⟨_, rfl⟩
  have hzE : wE.heap.size = lo + 5 := by rw [← hwE, size_alloc, hzD]
  have hbE : Below (lo + 4) wD wE := by rw [← hwE, ← hzD]; exact (Below.refl _ _).alloc (Nat.le_refl _) _
  have lE : Lies wE (lo + 4) 74 [.slice P k c] := by rw [← hwE, ← hzD]; exact lies_new wD 74 [.slice P k c]
  rw [hwE, hzD]
  clear hwE
  have hbAE : Below (lo + 2) wA wE := (hbB.trans (hbD.mono (by omega))).trans (hbE.mono (by omega))
  have hBE : Below lo w wE := hbA.trans (hbAE.mono (by omega))
  have L0 := l0.below hbAE (by omega)
  have L1 := l1.below hbAE (by omega)
  have LD := lD.below hbE (by omega)
  have hBI : BIn lo q 0 S wE := ⟨L0.cell 0, L0.free 0, L1.cell 0, L1.free 0, LD.cell 0, LD.free 0, row_low (row_low hrB (hbD.block _ (by omega))) (hbE.block _ (by omega)), by omega⟩
  have hG := parts_gives P c L lo (lo + 4) wE (by rw [HK.out]; exact hL) (by rw [HS.out, HN.out]; exact hall) (HO.out.below hBE) (by omega) (by omega) (by rw [HK.out]; exact lE.cell 0)
  rw [HS.out, HN.out, hzE] at hG
  clear L0 L1 LD hbAE hbE lE hbD lD hrB hbB l0 l1
  gi_wp2
  rw [show lo + 2 + 1 = lo + 3 from rfl]
  clear HPg
  have HBl : ∀ A A' : World, lo + 5 ≤ A.heap.size → A.grownBy A' (some (wE.heap.size + 1)) ∨ Below (lo + 5 + 2) A A' → Below (lo + 5) A A' := fun A A' hs h => by
    rcases h with h | h
    · exact below_row h (by omega) (fun z e => by cases e; omega)
    · exact h.mono (by omega)
  have HTk : ∀ W' : World, Below lo w W' → Tabs W' := fun W' hb => HT.out.keep (by rw [hlo]; exact hb)
  refine range_law (gf := 46) (lb := #[.pointer (some ⟨lo + 4, 0, none⟩)]) rfl (enters_of Tryd.func46 (by kernel_rfl) rfl) hG (fun _ => rfl)
    (Off fun z => z < lo ∨ lo + 4 ≤ z) (fun i W' => Hid (BIn lo q i S W') ∧ Hid (Below lo w W')) (fun _ _ => False)
    (fun A A' h z _ h2 _ => h.block z (by omega)) (fun A A' h z h1 _ h2 => h.block z h2 (by omega)) ?kp ?inv (fun _ _ _ h _ => h.elim) ?ok ⟨Lib.hid hBI, Lib.hid hBE⟩
    (fun x => { tmps := #[.slice P k c, undef, .pointer (some ⟨lo, 0, none⟩), .pointer (some ⟨lo + 1, 0, none⟩), .int .i64 (N : Int), .pointer (some ⟨lo + 3, 0, none⟩), .int .i64 (x.1 : Int), .slice x.2.A x.2.n x.2.c, undef, undef, .slice P k c, .int .i64 (k : Int), .bool false, .slice P k c, .int .i64 (N : Int), .int .i64 (N : Int), .bool false, .int .i64 (N : Int), .int .i64 (q : Int), .slice (some ⟨lo + 2, 0, none⟩) 0 q, .slice P k c, .func (.func 46) #[] #[.pointer (some ⟨lo + 4, 0, none⟩)], .int .i64 (x.1 : Int), .slice x.2.A x.2.n x.2.c, undef, undef, undef, undef, undef, undef, undef, undef, undef, undef, undef, undef, undef], defers := [] }) ?assign ?body ?done ?stop
  case kp =>
    intro A B C' D hs h1 h2 h3
    rw [hzE] at h1 h3
    exact ((Off.grown h1 (fun z e => by cases e; omega)).trans (h2.less fun z hz => by omega)).trans (Off.grown h3 (fun z e => by cases e; omega))
  case inv =>
    rintro i X X' ⟨h1, h2⟩ h
    have hb := HBl X X' h1.out.lt h
    exact ⟨Lib.hid (h1.out.keep hb (by omega)), Lib.hid (h2.out.trans (hb.mono (by omega)))⟩
  case ok =>
    rintro i x X X' r ⟨h1, h2, h3, h4, h5⟩ hr h
    refine ⟨h1, h2, h3, ?_, h5⟩
    intro z hz
    obtain ⟨ad, e1, e2, e3, e4⟩ := h4 z hz
    refine ⟨ad, e1, Nat.lt_of_lt_of_le e2 h.size, (World.cell?_of_block (h.block _ (cell_in e3) fun e => ?_)).trans e3, e4⟩
    injection e with e
    rw [World.cell?, e, hr] at e3
    cases e3
  case assign =>
    intro l' x W' K hK
    gi_wp2
    exact hK
  case body =>
    rintro l' i ⟨x, A, n, cc, V⟩ W' hsz hi ⟨rfl, hn, hA, hBy, sec, hsec, hsn, hsv⟩ ⟨hB, hb⟩
    have hn : n ≤ 256 := hn
    have hA : A = none → n = 0 ∧ cc = 0 := hA
    have hBy : Bys W' W'.heap.size A n V := hBy
    have hsn : sec.n = n := hsn
    have hsv : ∀ z, z < n → V z = sec.V z := hsv
    have hi : x < N := hi
    have hsec : (body S)[x]? = some sec := hsec
    have HPut := Lib.hid (pagePut_good A n cc V x W' (by omega) hn hA hBy (HTk W' hb.out))
    have HNx : Hid (ycells (imageOf S) (264 * x) ++ ycells (pageOf V n x) 264 = ycells (imageOf S) (264 * x + 264)) := Lib.hid (by
      rw [← img_next S x sec hsec]
      congr 1
      refine ycells_congr fun z _ => pageOf_congr x (fun y _ => ?_) z
      unfold padded
      rw [hsn]
      split
      · exact hsv y (by assumption)
      · rfl)
    have HV := Lib.hid (fun y => pageOf_lt (V := V) (n := n) (t := x) (fun z hz => (hBy z hz).elim fun _ h => h.2.2.2) y)
    clear hn hA hBy hsn hsv hsec
    have hx4 : 264 * x + 264 ≤ q := by omega
    gi_wp2_with (first
      | (refine ⟨trivial, rfl, ?_⟩; gi_at_call 35; refine (CallsIn.inRound l' (callsIn_wide.2 HPut.out)).mono ?_; rintro e w2 ⟨v, rfl, hv, hb2⟩; have hB2 := Lib.hid (hB.out.keep hb2 (by omega)); obtain ⟨gv, cv, rfl⟩ := Joins.ownsRow_form hv (by omega); have HVr := Lib.hid hv; have c1 := hB2.out.box; clear hv)
      | (gi_at_builtin; refine wpListIn_append_fits _ rfl (.tmp 33) (.tmp 34) 31 rfl lo 5 i0 1 Tryd.underlying31 hi0 hs1 (lo + 2) (264 * x) q _ rfl hB2.out.row ⟨gv, 0, none⟩ 264 cv (ycells (pageOf V n x) 264) rfl (by rw [ycells_length]) (fun z u hz => HVr.out.cells rfl z u hz) (ycells_one _ _) hx4 ?_; intro w3 hr3 hg3; rw [HNx.out] at hr3; obtain ⟨c3, f3, hB3⟩ := hB2.out.laid hg3 hr3 rfl; have HB3 := Lib.hid hB3; have HG3 := Lib.hid hg3; clear hr3 hg3 hB3))
    have hR3 : Off (fun z => z < lo ∨ lo + 4 ≤ z) W' (w3.setCell ⟨lo + 3, 0, none⟩ (.slice (some ⟨lo + 2, 0, none⟩) (264 * x + 264 : Nat) q)) :=
      ((Off.call hb2).trans (Off.grown HG3.out (fun z e => by cases e; omega))).trans (Off.setCell (by show ¬ (lo + 3 < lo ∨ lo + 4 ≤ lo + 3); omega) _)
    have hs2 := hb2.size
    exact ⟨hR3, HB3, Lib.hid (hb.out.trans (hR3.below (by omega) (fun z hz => .inl hz)))⟩
  case done =>
    rintro D W' hD ⟨hB, hb⟩ hK
    have hDl := (Array.getElem?_eq_some_iff.1 hK).1
    have hbx := hB.out.box
    have a0 := hB.out.r0
    have a1 := hB.out.r0f
    have a2 := hB.out.r1
    have a3 := hB.out.r1f
    have hl := hB.out.lt
    gi_wp2
    obtain ⟨W2, hW2⟩ : ∃ W2, (W'.setCell ⟨lo, 0, none⟩ (.slice (some ⟨lo + 2, 0, none⟩) q q)).setCell ⟨lo + 1, 0, none⟩ (.int .i64 0) = W2 := ⟨_, rfl⟩
    have hz2 : W2.heap.size = W'.heap.size := by rw [← hW2]; simp [World.setCell]
    have hh : ∀ z, z ≠ lo → z ≠ lo + 1 → W2.heap[z]? = W'.heap[z]? := fun z h1 h2 => by rw [← hW2]; exact (Below.heap_setCell _ _ _ _ (by show z ≠ lo + 1; omega)).trans (Below.heap_setCell _ _ _ _ (by show z ≠ lo; omega))
    have g0 : W2.cell? ⟨lo, 0, none⟩ = some (.slice (some ⟨lo + 2, 0, none⟩) q q) := by
      rw [← hW2]
      exact (World.cell?_of_block (a := ⟨lo, 0, none⟩) (Below.heap_setCell _ _ _ _ (by show lo ≠ lo + 1; omega))).trans (World.cell?_setCell_same' _ _ _ (by rw [a0]; rfl))
    have g1 : W2.cell? ⟨lo + 1, 0, none⟩ = some (.int .i64 0) := by
      rw [← hW2]
      exact World.cell?_setCell_same' _ _ _ (by rw [show (W'.setCell ⟨lo, 0, none⟩ (.slice (some ⟨lo + 2, 0, none⟩) q q)).cell? ⟨lo + 1, 0, none⟩ = _ from (World.cell?_of_block (a := ⟨lo + 1, 0, none⟩) (Below.heap_setCell _ _ _ _ (by show lo + 1 ≠ lo; omega))).trans a2]; rfl)
    have hbW : Below lo w W2 := by
      rw [← hW2]
      exact (hb.out.setCell (p := ⟨lo, 0, none⟩) (Nat.le_refl _) _).setCell (p := ⟨lo + 1, 0, none⟩) (by show lo ≤ lo + 1; omega) _
    have hrow := row_low hB.out.row (hh (lo + 2) (by omega) (by omega))
    rw [hq] at hrow ⊢
    rw [hW2]
    have hM : Marks (lo + 5) W2.heap.size ({ target := .collected D, args := #[] } :: []) W2 := ⟨D, rfl, by omega, by omega, (hh D (by omega) (by omega)).trans hK, trivial⟩
    exact hM.out (by omega) fun w' hw' => by
      have b0 := (hw'.cell (p := ⟨lo, 0, none⟩) (by show lo < lo + 5; omega)).trans g0
      have b1 := (hw'.cell (p := ⟨lo + 1, 0, none⟩) (by show lo + 1 < lo + 5; omega)).trans g1
      exact ⟨.tuple #[.slice (some ⟨lo + 2, 0, none⟩) q q, .int .i64 0], by simp [results, Tryd.results18, go_sem, b0, b1], _, rfl, row_low hrow (hw'.block _ (by omega)), hbW.trans (hw'.mono (by omega))⟩
  case stop =>
    rintro D c' W' hD h hK
    exact h.elim

/-- image.Build. -/
theorem build_any (P : Option Addr) (c : Nat) (L : List Part) (w : World) (ht : Tabs w) (ho : Secs w w.heap.size P L) :
    Calls Tryd.prog 18 #[.slice P L.length c] w (BuildPost w L) := by
  by_cases h1 : 60 < L.length
  · refine (build_many P L.length c w h1).mono ?_
    rintro e w' ⟨rfl, hb⟩
    exact ⟨fun _ => rfl, fun h => by omega, fun h => by omega, hb⟩
  · by_cases h2 : 4096 < allPages (secsP L)
    · refine (build_over P c L w (by omega) h2 ho).mono ?_
      rintro e w' ⟨rfl, hb⟩
      exact ⟨fun h => by omega, fun _ _ => rfl, fun _ h => by omega, hb⟩
    · refine (build_good P c L w ht (by omega) (by omega) ho).mono ?_
      rintro e w' ⟨v, rfl, hv, hb⟩
      exact ⟨fun h => by omega, fun _ h => by omega, fun _ _ => ⟨v, rfl, hv⟩, hb⟩
end Go.Proofs.YtjmajminfmcjcaaDoor
