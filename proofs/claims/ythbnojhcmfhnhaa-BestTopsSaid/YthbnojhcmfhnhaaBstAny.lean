/- The developers' packages wave and best answer what the laws of layer 18 ask (MatI, BestI). -/
import Derived.Test.YthbnojhcmfhnhaaBstTop
namespace Go.Proofs.Ythbnojhcmfhnhaa
open Go.RowKit
open Pl (cnt)

/-- a matrix as the laws of layer 18 see it. -/
def WavAtF (B : Nat) (w : World) (v : Value) (n : Nat) (V : Nat → Int) (m : Nat) : Prop := WavAt B w v n V m ∧ n ≤ 4194303
theorem mat_any : MatI WavAtF where
  keep_ := by
    rintro B w w' v n m V ⟨⟨g, gl, cl, rfl, h⟩, hn⟩ hs hb
    exact ⟨⟨g, gl, cl, rfl, h.keepB hs hb⟩, hn⟩
  ptr := by
    rintro B w v n m V ⟨⟨g, gl, cl, rfl, h⟩, _⟩
    exact ⟨_, rfl⟩
  new := by
    intro A n c V most w hn hm ho
    by_cases hR : RightW V n most
    · obtain ⟨m, rfl⟩ : ∃ m : Nat, most = (m : Int) := ⟨most.toNat, by have := hR.1; omega⟩
      refine (wvNew_yes A n c V m w hn ho hR).mono ?_
      rintro e w' ⟨⟨g, gl, cl, rfl, h⟩, hb⟩
      exact ⟨fun _ => ⟨_, rfl, ⟨g, gl, cl, rfl, by rw [Int.toNat_natCast]; exact h⟩, hn⟩, fun h => absurd hR h, hb⟩
    · refine (wvNew_no A n c V most w hn ho hR).mono ?_
      rintro e w' ⟨rfl, hb⟩
      exact ⟨fun h => absurd h hR, fun _ => rfl, hb⟩
  distinct := by
    rintro B v n m V a b w _ _ ⟨⟨g, gl, cl, rfl, h⟩, _⟩
    exact wvDistinct_any h a b

section
variable {w : World} {B g : Nat} {lv v : Value} {Q : Nat → Pt}
set_option maxRecDepth 100000 in
set_option maxHeartbeats 3200000 in
theorem bsNext_none (h : Hp w B g lv v 0 Q) : Calls Try.prog 16 #[.pointer (some ⟨g, 0, none⟩)] w fun e w' => e = .returned (.tuple #[noneP, .bool false]) ∧ Below w.heap.size w w' := by
  have hb0 : Below w.heap.size w (w.alloc (.cells #[.int .i64 0, .int .i64 0] 39)) := (Below.refl _ _).alloc (Nat.le_refl _) _
  have HS := Lib.hid (bsStep_none (h.below hb0))
  have HL := Lib.hid (lies_new w 39 [.int .i64 0, .int .i64 0])
  have HB0 := Lib.hid hb0
  obtain ⟨b0, hb⟩ : ∃ b0, w.heap.size = b0 := ⟨_, rfl⟩
  have HB := Lib.hid hb
  rw [hb] at HL
  unfold stepV at HS
  unfold noneP
  clear h hb0
  go_enter Try.func16, Try.ntmps16
  go_wp2_with fail
  go_loopg [] 1 (fun k wr => k = 1 ∧ wr = w.alloc (.cells #[.int .i64 0, .int .i64 0] 39))
  case atStart => exact ⟨rfl, rfl⟩
  case round =>
    obtain ⟨_, hwr⟩ := hrel
    rw [hwr]
    clear hwr
    go_wp2_with (go_at_call 15; (with_reducible refine HS.out.mono ?_); rintro e w2 ⟨rfl, hb2⟩; have hl0 := HL.out.below hb2 HL.out.lt; have hlt2 := hl0.lt; have c0 : w2.cell? ⟨b0, 0, none⟩ = some (.int .i64 0) := hl0.cell 0; have c1 : w2.cell? ⟨b0, 1, none⟩ = some (.int .i64 0) := hl0.cell 1; have f0 := hl0.free 0; have f1 := hl0.free 1; have HL2 := Lib.hid hl0; have HB2 := Lib.hid (HB0.out.trans (hb2.mono HB0.out.size)); clear hb2 hl0)
    have q1 := ((HL2.out.put 0 (.int .i64 0)).put 1 (.int .i64 0)).alloc (.cells #[.int .i64 0, .int .i64 0] 39)
    have z0 : (((w2.setCell ⟨b0, 0, none⟩ (.int .i64 0)).setCell ⟨b0, 1, none⟩ (.int .i64 0)).alloc (.cells #[.int .i64 0, .int .i64 0] 39)).cell? ⟨b0, 0, none⟩ = some (.int .i64 0) := q1.cell 0
    have z1 : (((w2.setCell ⟨b0, 0, none⟩ (.int .i64 0)).setCell ⟨b0, 1, none⟩ (.int .i64 0)).alloc (.cells #[.int .i64 0, .int .i64 0] 39)).cell? ⟨b0, 1, none⟩ = some (.int .i64 0) := q1.cell 1
    refine bodyPost_ret (v := .tuple #[.agg #[.int .i64 0, .int .i64 0], .bool false]) (by simp [results, Try.results16, go_sem, z0, z1]) rfl ?_
    refine ⟨rfl, ?_⟩
    have hbb := HB.out
    exact ((HB2.out.setCell (p := ⟨b0, 0, none⟩) (show w.heap.size ≤ b0 by omega) _).setCell (p := ⟨b0, 1, none⟩) (show w.heap.size ≤ b0 by omega) _).alloc (by have := HB2.out.size; simp [World.setCell]; omega) _
set_option maxRecDepth 100000 in
set_option maxHeartbeats 3200000 in
theorem bsNew_nil (a b : Int) (w : World) : Calls Try.prog 14 #[.pointer none, .int .i64 a, .int .i64 b] w fun e w' => e = .returned (.pointer (some ⟨w.heap.size, 0, none⟩)) ∧ Hp w' w.heap.size w.heap.size (.slice none 0 0) (.slice none 0 0) 0 (fun _ => ⟨0, 0, 0, 0⟩) ∧ Below w.heap.size w w' := by
  have HLv : Hid (∀ w, Calls Try.prog 24 #[.pointer none] w fun e w' => e = .returned (.slice none 0 0) ∧ w = w') := Lib.hid fun w => by
    go_enter Try.func24, Try.ntmps24
    go_wp2
    go_ret
    exact ⟨rfl, rfl⟩
  have HLn := Lib.hid (fun w => wvLen_nil w)
  have HHp : Hid (Hp (w.alloc (.cells #[.slice none 0 0, .slice none 0 0] 64)) w.heap.size w.heap.size (.slice none 0 0) (.slice none 0 0) 0 (fun _ => ⟨0, 0, 0, 0⟩)) := Lib.hid ⟨lies_new w 64 [.slice none 0 0, .slice none 0 0], World.ownsRow_nil _ _ _ _⟩
  have HB : Hid (Below w.heap.size w (w.alloc (.cells #[.slice none 0 0, .slice none 0 0] 64))) := Lib.hid ((Below.refl _ _).alloc (Nat.le_refl _) _)
  have HLy : Hid (∀ x y : Int, ¬ x < y → Calls Try.prog 25 #[.pointer (some ⟨w.heap.size, 0, none⟩), .agg #[.int .i64 0, .int .i64 0, .int .i64 x, .int .i64 y]] (w.alloc (.cells #[.slice none 0 0, .slice none 0 0] 64)) fun e w' => e = .returned (.tuple #[]) ∧ Below (w.alloc (.cells #[.slice none 0 0, .slice none 0 0] 64)).heap.size (w.alloc (.cells #[.slice none 0 0, .slice none 0 0] 64)) w') := Lib.hid fun x y h => bsLay_noI _ x y h
  go_enter Try.func14, Try.ntmps14
  go_wp2_with (go_at_call 24; (with_reducible refine (HLv.out _).mono ?_); rintro e w' ⟨rfl, rfl⟩)
  go_loopg [15] 1 (fun k s wr => k = 1 ∧ s = .int .i64 0 ∧ wr = w.alloc (.cells #[.slice none 0 0, .slice none 0 0] 64))
  case atStart => exact ⟨rfl, rfl, rfl⟩
  case round =>
    obtain ⟨_, rfl, hwr⟩ := hrel
    rw [hwr]
    clear hwr
    go_upto_region 7 with (fail)
    by_cases h1 : a < 0
    all_goals
      by_cases h2 : b < 0
      all_goals
        go_wp2_with (first
          | (go_at_call 26; (with_reducible refine (HLn.out _).mono ?_); rintro e w4 ⟨rfl, rfl⟩)
          | (go_at_call 25; (with_reducible refine (HLy.out _ _ (by omega)).mono ?_); rintro e w5 ⟨rfl, hp⟩))
        go_ret
        exact ⟨rfl, HHp.out.below hp, HB.out.trans (hp.mono HB.out.size)⟩
set_option maxRecDepth 100000 in
set_option maxHeartbeats 3200000 in
theorem bsTop_nil (a b k : Int) (w : World) : Calls Try.prog 13 #[.pointer none, .int .i64 a, .int .i64 b, .int .i64 k] w fun e w' => (∃ (A : Option Addr) (c : Nat), e = .returned (.slice A 0 c)) ∧ Below w.heap.size w w' := by
  have HN := Lib.hid (bsNew_nil a b w)
  go_enter Try.func13, Try.ntmps13
  go_wp2_with (go_at_call 14; (with_reducible refine HN.out.mono ?_); rintro e w1 ⟨rfl, hp1, bw1⟩; have HP1 := Lib.hid hp1; have HB1 := Lib.hid bw1; clear hp1 bw1)
  have HNx := Lib.hid (bsNext_none HP1.out)
  unfold noneP at HNx
  go_loopg [9] 1 (fun n s wr => n = 1 ∧ s = .slice none 0 0 ∧ wr = w1)
  case atStart => exact ⟨rfl, rfl, rfl⟩
  case round =>
    obtain ⟨_, rfl, hwr⟩ := hrel
    rw [hwr]
    clear hwr
    by_cases h1 : 0 < k
    · go_wp2_with (go_at_call 16; (with_reducible refine HNx.out.mono ?_); rintro e w2 ⟨rfl, hb2⟩; have HB2 := Lib.hid (HB1.out.trans (hb2.mono HB1.out.size)); clear hb2)
      go_ret
      exact ⟨⟨_, _, rfl⟩, HB2.out.alloc HB2.out.size _⟩
    · go_wp2_with fail
      go_ret
      exact ⟨⟨_, _, rfl⟩, HB1.out⟩
end
/-- a search as the laws see it: its own lies in what New laid (from H on, below H'), in its row. -/
def BstSt (B H : Nat) (F : Nat → Prop) (w : World) (s : Value) (l : List Int) (P : List (Int × Nat)) : Prop :=
  ∃ (H' g gl cl n W A Z : Nat) (V : Nat → Int) (v : Value) (m : Nat) (Q : Nat → Pt), s = .pointer (some ⟨g, 0, none⟩) ∧ Sr w B H H' g gl cl n W A Z V v m Q ∧ l = partL V (A : Int) (Z : Int) n ∧ P.Perm (partsP W Q m) ∧ ∀ k, F k ↔ (H ≤ k ∧ k < H') ∨ FT g v k
theorem wf_room {a : Int} (h : (Lit.int .i64 a).wf = true) : -9223372036854775808 ≤ a ∧ a ≤ 9223372036854775807 := by
  simpa [Lit.wf, IntKind.min, IntKind.max, IntKind.bits, IntKind.signed] using h
/-- what a step turns. -/
theorem bst_step {w w' : World} {B H H' g gl cl n W A Z m m' : Nat} {V : Nat → Int} {v v' : Value} {Q Q' : Nat → Pt} {F : Nat → Prop} {P : List (Int × Nat)} (_S : Sr w B H H' g gl cl n W A Z V v m Q) (hF : ∀ k, F k ↔ (H ≤ k ∧ k < H') ∨ FT g v k) (S' : Sr w' B H H' g gl cl n W A Z V v' m' Q') (ho : OffB (FT g v) w w') (hf : ∀ k, FT g v' k → FT g v k ∨ w.heap.size ≤ k) (hP : P.Perm (partsP W Q' m')) :
    BstSt B H (fun k => (H ≤ k ∧ k < H') ∨ FT g v' k) w' (.pointer (some ⟨g, 0, none⟩)) (partL V (A : Int) (Z : Int) n) P ∧ (∀ k, (H ≤ k ∧ k < H') ∨ FT g v' k → F k ∨ w.heap.size ≤ k) ∧ (∀ k, (H ≤ k ∧ k < H') ∨ FT g v' k → k < w'.heap.size) ∧ OffB F w w' := by
  have o1 := S'.ord
  refine ⟨⟨H', g, gl, cl, n, W, A, Z, V, v', m', Q', rfl, S', rfl, hP, fun _ => Iff.rfl⟩, fun k hk => ?_, fun k hk => ?_, ho.wider fun k hk => (hF k).2 (.inr hk)⟩
  · rcases hk with hk | hk
    · exact .inl ((hF k).2 (.inl hk))
    · exact (hf k hk).imp (fun h => (hF k).2 (.inr h)) id
  · rcases hk with hk | hk | hk
    · omega
    · omega
    · exact (S'.hp.row.lt k hk).2
theorem best_any : BestI WavAtF BstSt where
  top := by
    rintro B v n m V a b k w ha hb _ ⟨⟨g, gl, cl, rfl, h⟩, hn⟩
    have h1 := wf_room ha
    have h2 := wf_room hb
    exact bsTop_any h hn a b k h1.1 h1.2 h2.1 h2.2
  nilTop := fun a b k w => bsTop_nil a b k w
  keepS_ := by
    rintro B H F w w' s l P ⟨H', g, gl, cl, n, W, A, Z, V, v, m, Q, rfl, S, hl, hP, hF⟩ hs hb
    refine ⟨H', g, gl, cl, n, W, A, Z, V, v, m, Q, rfl, ?_, hl, hP, hF⟩
    obtain ⟨w1, h1, h2, h3⟩ := S.base
    obtain ⟨o1, o2, o3, o4, o5, o6, o7⟩ := S.ord
    refine ⟨⟨S.hp.head.same (hb g S.hp.head.lt (.inr ((hF g).2 (.inr (.inl rfl))))), owns_sameK S.hp.row fun k hk => hb k (S.hp.row.lt k hk).2 (.inr ((hF k).2 (.inr (.inr hk))))⟩, S.heap, ⟨w1, h1, h2, fun k a b c => (hb k (by omega) ?_).trans (h3 k a b c)⟩, ⟨o1, o2, o3, o4, o5, o6, Nat.le_trans o7 hs⟩, S.dim, S.ok, S.sum⟩
    by_cases e : k < H
    · exact .inl ⟨a, e⟩
    · exact .inr ((hF k).2 (.inl ⟨by omega, b⟩))
  ptrS := by
    rintro B H F w s l P ⟨H', g, gl, cl, n, W, A, Z, V, v, m, Q, rfl, _⟩
    exact ⟨_, rfl⟩
  new := by
    rintro B v n m V a b w ha hb _ ⟨⟨g, gl, cl, rfl, h⟩, hn⟩
    have h1 := wf_room ha
    have h2 := wf_room hb
    refine (bsNew_any h hn a b h1.1 h1.2 h2.1 h2.2).mono ?_
    rintro e w' ⟨H', gl2, cl2, v2, m2, Q2, rfl, S, hp, hbw⟩
    refine ⟨⟨_, fun k => (w.heap.size ≤ k ∧ k < H') ∨ FT w.heap.size v2 k, rfl, ⟨H', _, gl2, cl2, n, _, _, _, V, v2, m2, Q2, rfl, S, clamp_part V a b n n (Nat.le_refl _), ?_, fun _ => Iff.rfl⟩, fun k hk => ?_⟩, hbw⟩
    · rw [hp, clamp_part V a b n n (Nat.le_refl _)]
    · have o1 := S.ord
      refine ⟨?_, ?_⟩
      · rcases hk with hk | hk
        · exact hk.1
        · exact S.low k hk
      · rcases hk with hk | hk | hk
        · omega
        · omega
        · exact (S.hp.row.lt k hk).2
  step := by
    rintro B H F s l P w ⟨H', g, gl, cl, n, W, A, Z, V, v, m, Q, rfl, S, rfl, hP, hF⟩ hFl
    have hd := S.dim
    rcases m with _ | m
    · have hPe : P = [] := List.Perm.eq_nil hP
      refine (bsStep_none S.hp).mono ?_
      rintro e w' ⟨rfl, hb⟩
      obtain ⟨q1, q2, q3, q4⟩ := bst_step S hF (S.below hb) (OffB.of_below hb) (fun k hk => .inl hk) hP
      refine ⟨_, fun _ => ⟨rfl, hPe ▸ q1⟩, fun p R hp _ => ?_, q2, q3, q4⟩
      rw [hPe] at hp
      exact absurd hp.length_eq (by simp)
    · have hne : P ≠ [] := fun h => by
        have := hP.length_eq
        rw [h, partsP_len] at this
        cases this
      by_cases hW : (Q 0).lv = W
      · refine (bsStep_tell S hW).mono ?_
        rintro e w' ⟨rfl, v', Q', S', hT, ho, hf⟩
        obtain ⟨q1, q2, q3, q4⟩ := bst_step S hF S' ho hf (List.Perm.refl _)
        refine ⟨_, fun h => absurd h hne, fun p R hp hb => ?_, q2, q3, q4⟩
        obtain ⟨e, hR⟩ := top_is hd.2.2.2.1 hd.2.2.2.2 S.ok S.heap hT hP hp hb
        have hc := (S.ok 0 (Nat.succ_pos m)).cnt hd.2.2.2.1 hd.2.2.2.2
        subst e
        refine ⟨fun _ => ⟨?_, (bst_step S hF S' ho hf hR).1⟩, fun h => ?_⟩
        · rw [hc]
          rfl
        · have h : 0 < W - (Q 0).lv := h
          omega
      · have hWl : (Q 0).lv < W := by
          have := (S.ok 0 (Nat.succ_pos m)).lv
          omega
        refine (bsStep_half S hWl).mono ?_
        rintro e w' ⟨rfl, v', m', Q', L, S', hT, hT2, ho, hf⟩
        obtain ⟨q1, q2, q3, q4⟩ := bst_step S hF S' ho hf (List.Perm.refl _)
        refine ⟨_, fun h => absurd h hne, fun p R hp hb => ?_, q2, q3, q4⟩
        obtain ⟨e, hR⟩ := top_is hd.2.2.2.1 hd.2.2.2.2 S.ok S.heap hT hP hp hb
        subst e
        refine ⟨fun h => ?_, fun _ => ⟨rfl, (bst_step S hF S' ho hf ?_).1⟩⟩
        · have h : W - (Q 0).lv = 0 := h
          omega
        · rw [(S.ok 0 (Nat.succ_pos m)).halves hd.2.2.2.1 hd.2.2.2.2 hWl]
          have h4 := hT2.map (toP W)
          rw [List.map_append] at h4
          exact ((hR.append_left _).trans List.perm_append_comm).trans h4.symm
  next := by
    rintro B H F s l w ⟨H', g, gl, cl, n, W, A, Z, V, v, m, Q, rfl, S, rfl, hP, hF⟩ _
    have hm : m = 0 := by
      have := hP.length_eq
      rw [partsP_len] at this
      exact this.symm
    subst hm
    refine (bsNext_none S.hp).mono ?_
    rintro e w' ⟨rfl, hb⟩
    exact ⟨rfl, OffB.of_below hb⟩
end Go.Proofs.Ythbnojhcmfhnhaa
