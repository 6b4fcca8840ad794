/- The developers' docs.Ahead: from behind, over slices.Backward. -/
import Derived.Test.YtpdleigcdmgfmaaDocDev
import Derived.Test.YtpdleigcdmgfmaaSaBack
import Derived.Test.YtpdleigcdmgfmaaSaRound
namespace Go.Proofs.Ytpdleigcdmgfmaa
open Go.RowKit

attribute [local go_sem] Oper.semAt_some

/-- at the places from m on: at each number where it stands first. -/
def StoodA (V : Nat → Int) (n m : Nat) (g : Int → Option Int) : Prop := ∀ x, (g x).getD (n : Int) = ((lookN V x (n - m) m : Nat) : Int)
theorem StoodA.step {V : Nat → Int} {n m : Nat} {g : Int → Option Int} (hm : m < n) (h : StoodA V n (m + 1) g) : StoodA V n m (putO g (V m) (m : Int)) := fun x => by
  rw [show n - m = (n - (m + 1)) + 1 by omega]
  unfold lookN
  by_cases e : x = V m
  · rw [e, putO_at, if_pos rfl]
    rfl
  · rw [putO_off e, if_neg (fun e' => e e'.symm)]
    exact h x
/-- the places from m on are gone through. -/
structure AhIn (w : World) (lo : Nat) (A : Option Addr) (n c : Nat) (V : Nat → Int) (m : Nat) (W : World) : Prop where
  da : Lies W lo 23 [.slice A n c]
  l : Lies W (lo + 2) 23 [.slice (some ⟨lo + 1, 0, none⟩) n n]
  stood : Lies W (lo + 4) 52 [.map (some (lo + 3))]
  row : ∃ U, Lies W (lo + 1) 3 (icells U n) ∧ ∀ j, m ≤ j → j < n → U j = nextD V n j
  map : ∃ g, IMap W (lo + 3) (n - m) g ∧ StoodA V n m g
  below : Below lo w W
  size : lo + 5 ≤ W.heap.size
theorem AhIn.grown {w : World} {lo : Nat} {A : Option Addr} {n c : Nat} {V : Nat → Int} {m : Nat} {W W' : World} {row : Option Nat} (h : AhIn w lo A n c V m W) (hw : w.heap.size = lo) (hg : W.grownBy W' row) (hr : ∀ k, row = some k → lo + 5 ≤ k) : AhIn w lo A n c V m W' := by
  have hne : ∀ k, k < lo + 5 → some k ≠ row := fun k hk e => by have := hr k e.symm; omega
  obtain ⟨U, h1, h2⟩ := h.row
  obtain ⟨g, h3, h4⟩ := h.map
  exact ⟨h.da.grown hg (hne _ (by omega)), h.l.grown hg (hne _ (by omega)), h.stood.grown hg (hne _ (by omega)), ⟨U, h1.grown hg (hne _ (by omega)), h2⟩, ⟨g, h3.kept hg (hne _ (by omega)), h4⟩,
    h.below.grown hg (by have := h.below.size; omega) (fun k e => by have := hr k e; omega), Nat.le_trans h.size hg.size⟩
theorem its_round {w W : World} {lo n : Nat} {A : Option Addr} {V : Nat → Int} (h : Its w lo A n V) (hb : Below lo w W) : IntsAt W A n := fun j hj => by
  obtain ⟨ad, e, hl, hc, _⟩ := h j hj
  exact ⟨ad, V j, e, (hb.cell (by rw [add_block]; exact hl)).trans hc⟩

set_option maxRecDepth 100000 in
set_option maxHeartbeats 3200000 in
theorem docAhead_any (A : Option Addr) (n c : Nat) (V : Nat → Int) (w : World) (hn : n ≤ 4194303) (ho : ItsR w A n c V) :
    Calls Try.prog 15 #[.slice A n c] w fun e w' => (∃ (A2 : Option Addr) (c2 : Nat), e = .returned (.slice A2 n c2) ∧ ItsR w' A2 n c2 (nextD V n)) ∧ Below w.heap.size w w' := by
  have hA0 := ho.1
  have HO := Lib.hid ho.2.2.2
  clear ho
  obtain ⟨lo, hlo⟩ : ∃ lo, w.heap.size = lo := ⟨_, rfl⟩
  rw [hlo] at HO ⊢
  obtain ⟨w1, hw1⟩ : ∃ w1, w.alloc (.cells #[.slice A n c] 23) = w1 := ⟨_, rfl⟩
  have z1 : w1.heap.size = lo + 1 := by rw [← hw1, size_alloc, hlo]
  have l1 : Lies w1 lo 23 [.slice A n c] := by rw [← hw1, ← hlo]; exact lies_new w _ _
  have k1 : Below lo w w1 := by rw [← hw1, ← hlo]; exact (Below.refl _ _).alloc (Nat.le_refl _) _
  have v1 := l1.cell 0
  have hmix : Try.prog.follows .mixedOrders = true := by kernel_rfl
  have hMk := make_ints0 w1 n (by omega)
  obtain ⟨w2, hw2⟩ : ∃ w2, w1.alloc (.cells (icells (fun _ => 0) n).toArray 3) = w2 := ⟨_, rfl⟩
  rw [hw2, z1] at hMk
  have z2 : w2.heap.size = lo + 2 := by rw [← hw2, size_alloc, z1]
  have l2 : Lies w2 (lo + 1) 3 (icells (fun _ => 0) n) := by rw [← hw2, ← z1]; exact lies_new w1 _ _
  have k2 : Below lo w w2 := by rw [← hw2]; exact k1.alloc (by omega) _
  obtain ⟨w3, hw3⟩ : ∃ w3, w2.alloc (.cells #[.slice (some ⟨lo + 1, 0, none⟩) n n] 23) = w3 := ⟨_, rfl⟩
  have z3 : w3.heap.size = lo + 3 := by rw [← hw3, size_alloc, z2]
  have l3 : Lies w3 (lo + 2) 23 [.slice (some ⟨lo + 1, 0, none⟩) n n] := by rw [← hw3, ← z2]; exact lies_new w2 _ _
  have k3 : Below lo w w3 := by rw [← hw3]; exact k2.alloc (by omega) _
  obtain ⟨w4, hw4⟩ : ∃ w4, w3.alloc (.map #[] 0) = w4 := ⟨_, rfl⟩
  have hmm := run_makeMap (P := Try.prog) 52 w3
  have m4 := imap_made w3
  rw [hw4, z3] at hmm m4
  have z4 : w4.heap.size = lo + 4 := by rw [← hw4, size_alloc, z3]
  have k4 : Below lo w w4 := by rw [← hw4]; exact k3.alloc (by omega) _
  obtain ⟨w5, hw5⟩ : ∃ w5, w4.alloc (.cells #[.map (some (lo + 3))] 52) = w5 := ⟨_, rfl⟩
  have z5 : w5.heap.size = lo + 5 := by rw [← hw5, size_alloc, z4]
  have l5 : Lies w5 (lo + 4) 52 [.map (some (lo + 3))] := by rw [← hw5, ← z4]; exact lies_new w4 _ _
  have k5 : Below lo w w5 := by rw [← hw5]; exact k4.alloc (by omega) _
  have g4 : w4.grownBy w5 none := by rw [← hw5]; exact World.grownBy_alloc _ _ _
  have g3 : w3.grownBy w4 none := by rw [← hw4]; exact World.grownBy_alloc _ _ _
  have g2 : w2.grownBy w3 none := by rw [← hw3]; exact World.grownBy_alloc _ _ _
  have g1 : w1.grownBy w2 none := by rw [← hw2]; exact World.grownBy_alloc _ _ _
  have M5 := Lib.hid (m4.kept g4 (by simp))
  have L5a := Lib.hid ((((l1.grown g1 (by simp)).grown g2 (by simp)).grown g3 (by simp)).grown g4 (by simp))
  have L5b := Lib.hid (((l2.grown g2 (by simp)).grown g3 (by simp)).grown g4 (by simp))
  have L5c := Lib.hid ((l3.grown g3 (by simp)).grown g4 (by simp))
  have v5 := L5a.out.cell 0
  have HBk := Lib.hid (backward_any A n c w5)
  clear g1 g2 g3 g4 m4 l1 l2 l3 k1 k2 k3 k4
  refine (callsIn_wide (n := 0)).1 ?_
  refine callsIn_of_wp_marks Try.func15 rfl trivial ?_ rfl
  simp only [Try.ntmps15, List.size_toArray, List.length_cons, List.length_nil, Nat.reduceAdd, Nat.reduceSub, Array.replicate_succ, Array.replicate_zero, List.push_toArray, List.append_toArray, List.nil_append, List.cons_append]
  gi_wp2
  refine ⟨trivial, rfl, (callsIn_wide.2 HBk.out).mono ?_⟩
  rintro e' W1 ⟨rfl, hW1⟩
  rw [z5]
  have zW1 : W1.heap.size = lo + 6 := by rw [hW1, size_alloc, z5]
  have gW1 : w5.grownBy W1 none := by rw [hW1]; exact World.grownBy_alloc _ _ _
  have lb : Lies W1 (lo + 5) 23 [.slice A n c] := by rw [hW1, ← z5]; exact lies_new _ _ _
  have R0 : AhIn w lo A n c V n W1 := AhIn.grown ⟨L5a.out, L5c.out, l5, ⟨_, L5b.out, fun j h1 h2 => by omega⟩, ⟨_, by rw [Nat.sub_self]; exact M5.out, fun x => by rw [Nat.sub_self]; rfl⟩, k5, by omega⟩ hlo gW1 (fun k e => by cases e)
  clear HBk gW1 L5a L5b L5c M5 l5 k5
  gi_wp2
  rw [← hW1]
  clear hW1
  refine back_law A n c (lo + 5) zW1 (by omega) (by omega) (lb.cell 0) (its_round HO.out R0.below) rfl rfl
    (fun i W => Hid (AhIn w lo A n c V (n - i) W)) ?inv (Lib.hid (by rw [Nat.sub_zero]; exact R0)) (fun x => { tmps := #[.slice A n c, .pointer (some ⟨lo, 0, none⟩), .slice none 0 0, .pointer (some ⟨lo + 2, 0, none⟩), .pointer (some ⟨lo + 4, 0, none⟩), .int .i64 (x.1 : Int), .int .i64 x.2, .slice A n c, .int .i64 (n : Int), .slice (some ⟨lo + 1, 0, none⟩) n n, .map (some (lo + 3)), .slice A n c, .func (.func 32) #[] #[.pointer (some ⟨lo + 5, 0, none⟩)], .int .i64 (x.1 : Int), .int .i64 x.2, undef, undef, undef, undef, undef, undef, undef, undef, undef, undef], defers := [] }) ?assign ?body ?done
  case inv =>
    intro i A1 A2 hi hg
    exact Lib.hid (hi.out.grown hlo hg (fun k e => by cases e; omega))
  case assign =>
    intro l x W K hK
    gi_wp2
    exact hK
  case body =>
    rintro l i ⟨m, vx⟩ W hs hi ⟨hx1', ad, hA, hc'⟩ hR
    obtain rfl : A = some ad := hA
    have hx1 : m + i + 1 = n := hx1'
    have hmn : m < n := by omega
    have hc : W.cell? (ad.add m) = some (.int .i64 vx) := hc'
    clear hx1' hc'
    rw [show n - i = m + 1 by omega] at hR
    rw [show n - (i + 1) = m by omega]
    obtain ⟨ad', e', _, hc', hv1, hv2⟩ := (HO.out.below hR.out.below) m hmn
    have hvx : vx = V m := by
      cases e'
      rw [hc'] at hc
      injection hc with hc
      injection hc with _ hc
      exact hc.symm
    have HV := Lib.hid hvx
    have hwf : (Lit.int .i64 vx).wf = true := by rw [hvx]; exact HO.out.wf hmn
    obtain ⟨U, lu, hu⟩ := hR.out.row
    obtain ⟨g, mg, hg⟩ := hR.out.map
    have c0 := hR.out.da.cell 0
    have c2 := hR.out.l.cell 0
    have c4 := hR.out.stood.cell 0
    have hMv := moved_any (lo + 3) (n - (m + 1)) g vx (m : Int) (n : Int) W.drew mg (by unfold maxLen; omega) hwf (WalkArith.wf_i64 (by omega))
    have HE : Hid ((g vx).getD (n : Int) = nextD V n m) := Lib.hid (by rw [hvx]; exact hg (V m))
    rw [HE.out] at hMv
    obtain ⟨z, hz⟩ : ∃ z, nextD V n m = z := ⟨_, rfl⟩
    have hR2 := hR.out
    have HMv : Hid (Calls Try.prog 26 #[.map (some (lo + 3)), .int .i64 vx, .int .i64 (m : Int), .int .i64 (n : Int)] W.drew fun e w' => e = .returned (.int .i64 z) ∧ (w'.cell? ⟨lo, 0, none⟩ = some (.slice (some ad) n c) ∧ w'.cell? ⟨lo + 2, 0, none⟩ = some (.slice (some ⟨lo + 1, 0, none⟩) n n) ∧ w'.cell? ⟨lo + 4, 0, none⟩ = some (.map (some (lo + 3)))) ∧ w'.cell? ⟨lo + 1, m, none⟩ = some (.int .i64 (U m)) ∧ w'.frozen? ⟨lo + 1, m, none⟩ = false ∧
        Hid (AhIn w lo (some ad) n c V m (w'.setCell ⟨lo + 1, m, none⟩ (.int .i64 z)) ∧ Off (fun q => q ≠ lo + 1 ∧ q ≠ lo + 3) W (w'.setCell ⟨lo + 1, m, none⟩ (.int .i64 z)))) := Lib.hid (hMv.mono fun e w' ⟨h1, h2, h3⟩ => by
      have hne : ∀ k, k ≠ lo + 3 → some k ≠ some (lo + 3) := fun k hk e => hk (by injection e)
      have u2 : Lies w' (lo + 1) 3 (icells U n) := lu.drew.grown h3 (hne _ (by omega))
      have hlw : lo ≤ w.heap.size := by omega
      refine ⟨by rw [h1, hz], ⟨(hR2.da.drew.grown h3 (hne _ (by omega))).cell 0, (hR2.l.drew.grown h3 (hne _ (by omega))).cell 0, (hR2.stood.drew.grown h3 (hne _ (by omega))).cell 0⟩, by rw [u2.cell]; exact icells_at _ _ _ hmn, u2.free m, Lib.hid ⟨⟨?_, ?_, ?_, ?_, ?_, ?_, ?_⟩, ?_⟩⟩
      · exact (hR2.da.drew.grown h3 (hne _ (by omega))).far (p := ⟨lo + 1, m, none⟩) (by show lo ≠ lo + 1; omega) _
      · exact (hR2.l.drew.grown h3 (hne _ (by omega))).far (p := ⟨lo + 1, m, none⟩) (by show lo + 2 ≠ lo + 1; omega) _
      · exact (hR2.stood.drew.grown h3 (hne _ (by omega))).far (p := ⟨lo + 1, m, none⟩) (by show lo + 4 ≠ lo + 1; omega) _
      · refine ⟨putI U m z, ?_, fun j h1 h2 => ?_⟩
        · have := u2.put m (.int .i64 z)
          rw [icells_put] at this
          exact this
        · by_cases e : j = m
          · rw [e, putI_at, hz]
          · rw [putI_off _ e]
            exact hu j (by omega) h2
      · refine ⟨putO g vx (m : Int), ?_, by rw [hvx]; exact hg.step hmn⟩
        rw [show n - m = n - (m + 1) + 1 by omega]
        exact h2.same (Below.heap_setCell _ _ _ _ (by show lo + 3 ≠ lo + 1; omega))
      · exact ((hR2.below.drew).grown h3 (by rw [hlo] at hlw; have := hR2.below.size; exact Nat.le_trans (Nat.le_of_eq hlo.symm) this) (fun k e => by cases e; omega)).setCell (p := ⟨lo + 1, m, none⟩) (by show lo ≤ lo + 1; omega) _
      · exact Nat.le_trans (Nat.le_trans hR2.size h3.size) (Below.setCell (B := 0) (Below.refl 0 w') (Nat.zero_le _) _).size
      · exact ((off_drew _ _).trans (Off.grown h3 (fun k e h => by cases e; exact h.2 rfl))).trans (Off.setCell (fun h => h.1 rfl) _))
    clear hMv HE hz hR2 lu hu mg hg hvx HV hc' e' hc hR
    have HS0 : Hid (W.drew.cell? ⟨lo, 0, none⟩ = some (.slice (some ad) n c) ∧ W.drew.cell? ⟨lo + 2, 0, none⟩ = some (.slice (some ⟨lo + 1, 0, none⟩) n n) ∧ W.drew.cell? ⟨lo + 4, 0, none⟩ = some (.map (some (lo + 3)))) := Lib.hid ⟨c0, c2, c4⟩
    have hmi : (m : Int) < (n : Int) := by omega
    clear c0 c2 c4
    gi_wp2
    refine held_in_round (S := fun w' => w'.cell? ⟨lo, 0, none⟩ = some (.slice (some ad) n c) ∧ w'.cell? ⟨lo + 2, 0, none⟩ = some (.slice (some ⟨lo + 1, 0, none⟩) n n) ∧ w'.cell? ⟨lo + 4, 0, none⟩ = some (.map (some (lo + 3)))) hmix (by kernel_rfl) (fun ⟨_, _, hh⟩ => hh) HS0.out (fun hHeld => ?_)
    clear HS0
    refine take_at (i := 0) (d := 15) (v := ?_) rfl rfl (by kernel_rfl) (by kernel_rfl) (by kernel_rfl) (fun _ _ _ h => h) (Or.inl ⟨by rfl, ?_⟩) (by assumption) ?_
    rotate_left
    · intro wS hSw
      go_simp
      all_goals with_reducible rfl
    try simp only [Act.put, List.setIfInBounds_toArray, List.set_cons_zero, List.set_cons_succ]
    refine take_at (i := 1) (d := 16) (v := ?_) rfl rfl (by kernel_rfl) (by kernel_rfl) (by kernel_rfl) (fun _ _ _ h => h) (Or.inl ⟨by rfl, ?_⟩) (by assumption) ?_
    rotate_left
    · intro wS hSw
      go_simp
      all_goals with_reducible rfl
    try simp only [Act.put, List.setIfInBounds_toArray, List.set_cons_zero, List.set_cons_succ]
    refine take_at (i := 2) (d := 17) (v := ?_) rfl rfl (by kernel_rfl) (by kernel_rfl) (by kernel_rfl) (fun _ _ _ h => h) (Or.inl ⟨by rfl, ?_⟩) (by assumption) ?_
    rotate_left
    · intro wS hSw
      go_simp
      all_goals with_reducible rfl
    try simp only [Act.put, List.setIfInBounds_toArray, List.set_cons_zero, List.set_cons_succ]
    refine take_at (i := 3) (d := 18) (v := ?_) rfl rfl (by kernel_rfl) (by kernel_rfl) (by kernel_rfl) (fun _ _ _ h => h) (Or.inl ⟨by rfl, ?_⟩) (by assumption) ?_
    rotate_left
    · intro wS hSw
      go_simp
      all_goals with_reducible rfl
    try simp only [Act.put, List.setIfInBounds_toArray, List.set_cons_zero, List.set_cons_succ]
    refine take_at (i := 4) (d := 19) (v := ?_) rfl rfl (by kernel_rfl) (by kernel_rfl) (by kernel_rfl) (fun _ _ _ h => h) (Or.inl ⟨by rfl, ?_⟩) (by assumption) ?_
    rotate_left
    · intro wS hSw
      go_simp
      all_goals with_reducible rfl
    try simp only [Act.put, List.setIfInBounds_toArray, List.set_cons_zero, List.set_cons_succ]
    refine take_at (i := 5) (d := 20) (v := ?_) rfl rfl (by kernel_rfl) (by kernel_rfl) (by kernel_rfl) (fun _ _ _ h => h) (Or.inl ⟨by rfl, ?_⟩) (by assumption) ?_
    rotate_left
    · intro wS hSw
      go_simp
      all_goals with_reducible rfl
    try simp only [Act.put, List.setIfInBounds_toArray, List.set_cons_zero, List.set_cons_succ]
    refine take_at (i := 6) (d := 21) (v := ?_) rfl rfl (by kernel_rfl) (by kernel_rfl) (by kernel_rfl) (fun _ _ _ h => h) (Or.inl ⟨by rfl, ?_⟩) (by assumption) ?_
    rotate_left
    · intro wS hSw
      go_simp
      all_goals with_reducible rfl
    try simp only [Act.put, List.setIfInBounds_toArray, List.set_cons_zero, List.set_cons_succ]
    refine wpAnyH_ready (rs := [7]) (by kernel_rfl) (by simp) ?_
    refine AllReadyH.cons rfl (fun K hK => ?_) AllReadyH.nil
    go_simp
    refine HMv.out.mono ?_
    rintro e w' ⟨rfl, hS1, hx3, hx4, HF⟩
    refine hK.out _ _ hS1 (fun hHeld => ?_)
    clear hK K HMv
    try simp only [Act.put, List.setIfInBounds_toArray, List.set_cons_zero, List.set_cons_succ]
    refine wpAnyH_ready (rs := [8]) (by kernel_rfl) (by simp) ?_
    refine AllReadyH.cons rfl (fun K hK => ?_) AllReadyH.nil
    go_simp
    refine hK.out _ _ hS1 (fun hHeld => ?_)
    clear hK K
    try simp only [Act.put, List.setIfInBounds_toArray, List.set_cons_zero, List.set_cons_succ]
    refine wpAnyH_ready (rs := [9]) (by kernel_rfl) (by simp) ?_
    refine AllReadyH.cons rfl (fun K hK => ?_) AllReadyH.nil
    go_simp
    refine hK.out _ _ ⟨HF.out.1.da.cell 0, HF.out.1.l.cell 0, HF.out.1.stood.cell 0⟩ (fun hHeld => ?_)
    clear hK K
    try simp only [Act.put, List.setIfInBounds_toArray, List.set_cons_zero, List.set_cons_succ]
    refine wpAnyH_done (by kernel_rfl) ?_ _
    exact ⟨⟨HF.out.2.less (fun q hq => by rcases hq with rfl | rfl | rfl <;> omega), its_round HO.out HF.out.1.below⟩, Lib.hid HF.out.1⟩
  case done =>
    intro D W hD hR hk1
    rw [Nat.sub_self] at hR
    have hDl := (Array.getElem?_eq_some_iff.1 hk1).1
    have c2 := hR.out.l.cell 0
    have hMM : Marks (lo + 5) W.heap.size ({ target := .collected D, args := #[] } :: []) W := ⟨D, rfl, by omega, hDl, hk1, trivial⟩
    have HRw := Lib.hid hR.out.row
    have HB4 := Lib.hid hR.out.below
    clear hR
    gi_wp2
    exact hMM.out (by omega) fun w' hw' => ⟨.slice (some ⟨lo + 1, 0, none⟩) n n, by simp [results, Try.results15, go_sem], ⟨_, n, rfl, by
      obtain ⟨U, hL, hu⟩ := HRw.out
      exact itsR_lies (hL.below hw' (by omega)) (by omega) (fun j hj => hu j (Nat.zero_le _) hj) (fun j hj => by
        have := nextD_room (V := V) hj
        omega)⟩, HB4.out.trans (hw'.mono (by omega))⟩
end Go.Proofs.Ytpdleigcdmgfmaa
