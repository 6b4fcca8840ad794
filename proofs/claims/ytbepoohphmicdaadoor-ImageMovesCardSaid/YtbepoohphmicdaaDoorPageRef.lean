/- The contracts of the document's own answers for layer 5: Put and Get. -/
import Derived.Test.YtbepoohphmicdaaDoorPage
import Derived.Test.YtbepoohphmicdaaDoorCrcRef
import Derived.Test.YtbepoohphmicdaaDoorHeld
import Derived.Deep.CutBlock
import Derived.Deep.DeepCutAuto
namespace Go.Proofs.YtbepoohphmicdaaDoor
open Go.RowKit

theorem padded_nought (V : Nat → Nat) (n k : Nat) (h : n ≤ k) : padded V n k = 0 := by unfold padded; rw [if_neg (by omega)]
theorem padded_self (V : Nat → Nat) (n : Nat) : ycells (padded V n) n = ycells V n := ycells_congr fun k hk => by unfold padded; rw [if_pos hk]
theorem body_cells (V : Nat → Nat) (n t : Nat) : ycells (padded V n) 256 ++ ycells (byteOf t) 4 = ycells (bodyOf V n t) 260 := ycells_both (padded V n) (byteOf t) 256 4
/-- the number's bytes, as the document lays them. -/
theorem four_num (t : Nat) (h : t ≤ 4095) (W : World) : Bys (W.alloc (.cells #[.int .u8 ((t % 256 : Nat) : Int), .int .u8 ((t / 256 : Nat) : Int), .int .u8 0, .int .u8 0] 5)) (W.heap.size + 1) (some ⟨W.heap.size, 0, none⟩) 4 (byteOf t) := by
  have hl := lies_new W 5 (quad t)
  have hq := quad_bys hl
  rw [size_alloc] at hq
  have e : quad t = [.int .u8 ((t % 256 : Nat) : Int), .int .u8 ((t / 256 : Nat) : Int), .int .u8 0, .int .u8 0] := by
    unfold quad
    rw [byteOf_0, byteOf_1 t (by omega), byteOf_2 t (by omega), byteOf_3 t (by omega)]
    rfl
  rw [e] at hq
  exact hq

/-- a slice's length. -/
def lenOf : Value → Nat
  | .slice _ n _ => n
  | _ => 0
theorem tmod_nat (t m : Nat) : (t : Int).tmod (m : Int) = ((t % m : Nat) : Int) := by rw [Int.tmod_eq_emod_of_nonneg (by omega)]; omega
theorem tdiv_nat (t m : Nat) : (t : Int).tdiv (m : Int) = ((t / m : Nat) : Int) := by rw [Int.tdiv_eq_ediv_of_nonneg (by omega)]; omega

set_option maxRecDepth 100000 in
set_option maxHeartbeats 1600000 in
theorem refPagePut_good (A : Option Addr) (n c : Nat) (V : Nat → Nat) (t : Nat) (w : World) (ht4 : t ≤ 4095) (hn : n ≤ 256) (hA : A = none → n = 0 ∧ c = 0) (ho : Bys w w.heap.size A n V) :
    Calls Tryd.prog 26 #[.int .i64 (t : Int), .slice A n c] w fun e w' => ∃ v, e = .returned (.tuple #[v, .int .i64 0]) ∧ w'.ownsRow w.heap.size 5 1 v 264 (ycells (pageOf V n t) 264) ∧ Below w.heap.size w w' := by
  have HO := Lib.hid ho
  have hV : ∀ k, k < n → V k < 256 := fun k hk => (ho k hk).elim fun _ h => h.2.2.2
  have HV := Lib.hid hV
  have HW := Lib.hid (World.ownsRow_made (base := w.heap.size) (e := 5) (size := 1) w #[] 0 (Nat.le_refl _) (by unfold maxLen; omega) rfl)
  have hb0 : Below w.heap.size w (w.alloc (.cells #[] 5)) := (Below.refl _ _).alloc (Nat.le_refl _) _
  have h1 : decide ((t : Int) < 0) = false := by simp
  have h2 : decide ((4095 : Int) < (t : Int)) = false := by simp; omega
  have h3 : decide ((256 : Int) < (n : Int)) = false := by simp; omega
  clear ho hV
  go_enter Tryd.func26, Tryd.ntmps26
  go_wp2_with (at_builtin; refine step_append_bytes rfl (.tmp 16) (.tmp 17) rfl rfl HW.out rfl hA (HO.out.below hb0) hb0.size (by omega) ?_; intro v1 w1 hown1 hb1)
  have hbA := hb0.trans hb1
  go_loopw [6] (fun p wr => ∃ i : Nat, n ≤ i ∧ i ≤ 256 ∧ Hid (wr.ownsRow w.heap.size 5 1 p i (ycells (padded V n) i)) ∧ Below w.heap.size w wr) (fun p _ => 256 - lenOf p)
  case atStart =>
    refine ⟨n, Nat.le_refl _, hn, Lib.hid ?_, hbA⟩
    have h := hown1.out
    rw [List.nil_append, Nat.zero_add] at h
    rw [padded_self]
    exact h
  case round =>
    obtain ⟨i, hni, hi, hown, hb⟩ := hrel
    have hbs := hb.size
    obtain ⟨X, cx, rfl, hXA, hXc, hXo⟩ := row_bys hown.out (fun x _ => padded_lt HV.out x)
    by_cases hlt : i < 256
    · have hd : decide ((i : Int) < 256) = true := by simp; omega
      have HY := Lib.hid (padded_nought V n i hni)
      go_wp2_with (at_builtin; refine step_append_byte rfl (.tmp 22) (.tmp 23) rfl rfl hown.out _ rfl hbs (by omega) ?_; intro v5 w5 hown5 hb5)
      obtain ⟨g5, cx5, rfl⟩ := Joins.ownsRow_form hown5.out (by omega)
      go_roundw
      case rel =>
        refine ⟨i + 1, by omega, by omega, Lib.hid ?_, hb.trans hb5⟩
        have h := hown5.out
        rw [ycells_snoc, HY.out]
        exact h
      case measure => simp [lenOf]; omega
    · obtain rfl : i = 256 := by omega
      have hd : decide ((256 : Int) < 256) = false := by decide
      have HF := Lib.hid (four_num t ht4 wr)
      have HFb := Lib.hid (hb.alloc hbs (.cells #[.int .u8 ((t : Int) % 256), .int .u8 ((t : Int) / 256), .int .u8 0, .int .u8 0] 5))
      have HFs := Lib.hid (size_alloc wr (.cells #[.int .u8 ((t : Int) % 256), .int .u8 ((t : Int) / 256), .int .u8 0, .int .u8 0] 5))
      clear h1 h2 h3
      go_wp2_with (at_builtin; refine step_append_bytes rfl (.tmp 25) (.tmp 32) rfl rfl (hown.out.alloc _) rfl (fun e => (by cases e)) HF.out HFb.out.size (by omega) ?_; intro v5 w5 hown5 hb5)
      have hb6 := HFb.out.trans hb5
      have h := hown5.out
      rw [body_cells] at h
      obtain ⟨Y, cy, rfl, hYA, hYc, hYo⟩ := row_bys h (fun x _ => bodyOf_lt HV.out x)
      have HP := Lib.hid (refPut_any Y 260 cy (bodyOf V n t) w5 (by decide) hYA hYo)
      clear hown5 hb5 h hYo HF HFb HFs hYA hYc hXo hXA hXc
      refine HP.out.mono ?_
      rintro e w6 ⟨v, rfl, hv, hb7⟩
      go_wp2_with fail
      go_ret2
      exact ⟨v, rfl, ownsRow_lower hv hb6.size, hb6.trans (hb7.mono hb6.size)⟩

set_option maxRecDepth 100000 in
set_option maxHeartbeats 800000 in
theorem refPagePut_any (A : Option Addr) (n c : Nat) (V : Nat → Nat) (a : Int) (w : World) (hA : A = none → n = 0 ∧ c = 0) (ho : Bys w w.heap.size A n V) :
    Calls Tryd.prog 26 #[.int .i64 a, .slice A n c] w (PagePost w a n V) := by
  by_cases ha : a < 0 ∨ 4095 < a
  · have hx : (decide (a < 0) = true) ∨ (decide (a < 0) = false ∧ decide ((4095 : Int) < a) = true) := by
      simp only [decide_eq_true_eq, decide_eq_false_iff_not]
      omega
    rcases hx with h1 | ⟨h1, h2⟩
    all_goals
      go_enter Tryd.func26, Tryd.ntmps26
      go_wp2_with fail
      go_ret2
      exact ⟨fun _ => rfl, fun h => absurd ha (by omega), fun t h h4 => absurd ha (by omega), Below.refl _ _⟩
  · obtain ⟨t, rfl⟩ : ∃ t : Nat, a = (t : Int) := ⟨a.toNat, by omega⟩
    have h1 : decide ((t : Int) < 0) = false := by simp
    have h2 : decide ((4095 : Int) < (t : Int)) = false := by simp; omega
    by_cases hn : n ≤ 256
    · refine (refPagePut_good A n c V t w (by omega) hn hA ho).mono ?_
      rintro e w' ⟨v, rfl, hv, hb⟩
      exact ⟨fun h => absurd h ha, fun _ h => by omega, fun t' h _ _ => by
        obtain rfl : t' = t := by omega
        exact ⟨v, rfl, hv⟩, hb⟩
    · have h3 : decide ((256 : Int) < (n : Int)) = true := by simp; omega
      go_enter Tryd.func26, Tryd.ntmps26
      go_wp2_with fail
      go_ret2
      exact ⟨fun h => absurd h ha, fun _ _ => rfl, fun _ _ _ h => absurd h hn, Below.refl _ _⟩

/-- what the document's Get leaves. -/
def RefGetPost (w : World) (A : Option Addr) (n c : Nat) (V : Nat → Nat) (e : Ending) (w' : World) : Prop :=
  (n < 264 → e = .returned (.tuple #[.int .i64 0, .slice none 0 0, .int .i64 50])) ∧
  (264 < n → e = .returned (.tuple #[.int .i64 0, .slice none 0 0, .int .i64 51])) ∧
  (n = 264 → ¬ Pl.Ends V 260 → e = .returned (.tuple #[.int .i64 0, .slice none 0 0, .int .i64 40])) ∧
  (n = 264 → Pl.Ends V 260 → 4096 ≤ numberOf V → e = .returned (.tuple #[.int .i64 0, .slice none 0 0, .int .i64 10])) ∧
  (n = 264 → Pl.Ends V 260 → numberOf V < 4096 → e = .returned (.tuple #[.int .i64 ((numberOf V : Nat) : Int), .slice A 256 c, .int .i64 0])) ∧ Below w.heap.size w w'
theorem ends_same {V : Nat → Nat} (h : Pl.Ends V 260) : bstr (behind V 260) 264 = bstr V 264 := bstr_congr fun k hk => by
  by_cases h2 : k < 260
  · exact behind_old V 260 k h2
  · have e := behind_new V 260 (k - 260)
    have e2 := h (k - 260) (by omega)
    rw [show 260 + (k - 260) = k by omega] at e e2
    rw [e, e2]
    rfl
theorem ends_unlike {V : Nat → Nat} (hV : ∀ k, k < 264 → V k < 256) (h : ¬ Pl.Ends V 260) : bstr (behind V 260) 264 ≠ bstr V 264 := fun e => h fun i hi => by
  have e1 := (bstr_same (fun k hk => behind_lt (fun j hj => hV j (by omega)) k) hV e).2 (260 + i) (by omega)
  rw [behind_new] at e1
  rw [← e1]
  rfl

set_option linter.unusedSimpArgs false in
set_option maxRecDepth 100000 in
set_option maxHeartbeats 1600000 in
theorem refPageGet_sized (ad : Addr) (c : Nat) (V : Nat → Nat) (w : World) (hc : 264 ≤ c) (ho : Bys w w.heap.size (some ad) 264 V) :
    Calls Tryd.prog 35 #[.slice (some ad) 264 c] w (RefGetPost w (some ad) 264 c V) := by
  have HV := Lib.hid (show ∀ k, k < 264 → V k < 256 from fun k hk => (ho k hk).elim fun _ h => h.2.2.2)
  have HO := Lib.hid ho
  have hcc : (260 : Int) ≤ (c : Int) := by omega
  obtain ⟨b, hb⟩ : ∃ b, ((bstr (behind V 260) 264).toList == (bstr V 264).toList) = b := ⟨_, rfl⟩
  have HB := Lib.hid hb
  clear ho
  go_enter Tryd.func35, Tryd.ntmps35
  go_upto_region 5 with (fail)
  go_cut [17] (fun s wx => s = .bool (!b) ∧ Below w.heap.size w wx)
  case first =>
    have hw0 := below_drew' (Below.refl w.heap.size w)
    have HS := Lib.hid (show ∀ W, Below w.heap.size w W → (convert 25 9 (.slice (some ad) 264 c)).run Tryd.prog W = .ok (.string (bstr V 264)) W ∧ Below w.heap.size w W from fun W hW => ⟨(HO.out.below hW).conv c, hW⟩)
    have HR1 := Lib.hid (refPut_any (some ad) 260 c V w.drew (by decide) (fun e => (by cases e)) ((HO.out.below hw0).take_ (by decide)))
    have HBL := Lib.hid (show ∀ k, behind V 260 k < 256 from fun k => behind_lt (fun j hj => HV.out j (by omega)) k)
    have hbb := HB.out
    refine wp_region_noPanic ?_
    refine wp_region_held_drew (S := (fun w' => (convert 25 9 (.slice (some ad) 264 c)).run Tryd.prog w' = .ok (.string (bstr V 264)) w' ∧ Below w.heap.size w w')) (by kernel_rfl) (HS.out _ hw0) (fun hHeld => ?_)
    refine take_at (i := 0) (d := 11) (v := ?_) rfl rfl (by kernel_rfl) (by kernel_rfl) (by kernel_rfl) (fun _ _ _ h => h) (Or.inl ⟨by rfl, ?_⟩) (by assumption) ?_
    rotate_left
    · intro wS hSw
      go_simp
      all_goals with_reducible rfl
    try simp only [Act.put, List.setIfInBounds_toArray, List.set_cons_zero, List.set_cons_succ]
    refine take_at (i := 1) (d := 12) (v := ?_) rfl rfl (by kernel_rfl) (by kernel_rfl) (by kernel_rfl) (fun _ _ _ h => h) (Or.inl ⟨by rfl, ?_⟩) (by assumption) ?_
    rotate_left
    · intro wS hSw
      go_simp
      all_goals with_reducible rfl
    try simp only [Act.put, List.setIfInBounds_toArray, List.set_cons_zero, List.set_cons_succ]
    refine take_at (i := 4) (d := 15) (v := ?_) rfl rfl (by kernel_rfl) (by kernel_rfl) (by kernel_rfl) (fun _ _ _ h => h) (Or.inl ⟨by rfl, ?_⟩) (by assumption) ?_
    rotate_left
    · intro wS hSw
      go_simp
      all_goals with_reducible rfl
    try simp only [Act.put, List.setIfInBounds_toArray, List.set_cons_zero, List.set_cons_succ]
    refine take_at (i := 5) (d := 16) (v := ?_) rfl rfl (by kernel_rfl) (by kernel_rfl) (by kernel_rfl) (fun _ _ _ h => h) (Or.inl ⟨by rfl, ?_⟩) (by assumption) ?_
    rotate_left
    · intro wS hSw
      go_simp
      all_goals with_reducible rfl
    try simp only [Act.put, List.setIfInBounds_toArray, List.set_cons_zero, List.set_cons_succ]
    refine wpAnyH_ready (rs := [2]) (by kernel_rfl) (by simp) ?_
    refine AllReadyH.cons rfl (fun K hK => ?_) AllReadyH.nil
    go_simp
    refine HR1.out.mono ?_
    rintro e x1 ⟨p, rfl, hp, hc1⟩
    have hC1 := hw0.trans (hc1.mono hw0.size)
    have hcv := row_conv hp (fun k _ => HBL.out k)
    refine hK.out _ _ ?_ (fun hHeld => ?_)
    · exact HS.out _ hC1
    clear hK K
    try simp only [Act.put, List.setIfInBounds_toArray, List.set_cons_zero, List.set_cons_succ]
    refine wpAnyH_ready (rs := [3]) (by kernel_rfl) (by simp) ?_
    refine AllReadyH.cons rfl (fun K hK => ?_) AllReadyH.nil
    go_simp
    refine hK.out _ _ ?_ (fun hHeld => ?_)
    · exact HS.out _ hC1
    clear hK K
    try simp only [Act.put, List.setIfInBounds_toArray, List.set_cons_zero, List.set_cons_succ]
    refine take_at (i := 6) (d := 17) (v := ?_) rfl rfl (by kernel_rfl) (by kernel_rfl) (by kernel_rfl) (fun _ _ _ h => h) (Or.inl ⟨by rfl, ?_⟩) (by assumption) ?_
    rotate_left
    · intro wS hSw
      go_simp
      all_goals with_reducible rfl
    try simp only [Act.put, List.setIfInBounds_toArray, List.set_cons_zero, List.set_cons_succ]
    refine wpAnyH_done (by kernel_rfl) ?_ _
    refine NoPanic.normal ?_
    go_wp2_with fail
    go_meet
    exact And.intro rfl hC1
  case rest =>
    obtain ⟨rfl, hB⟩ := hcut
    have hO := HO.out.below hB
    obtain ⟨_, e6, _, q6, v6⟩ := hO 256 (by decide)
    cases e6
    have q6 : wc.cell? ⟨ad.block, ad.off + 256, none⟩ = _ := q6
    obtain ⟨_, e7, _, q7, v7⟩ := hO 257 (by decide)
    cases e7
    have q7 : wc.cell? ⟨ad.block, ad.off + 257, none⟩ = _ := q7
    obtain ⟨_, e8, _, q8, v8⟩ := hO 258 (by decide)
    cases e8
    have q8 : wc.cell? ⟨ad.block, ad.off + 258, none⟩ = _ := q8
    obtain ⟨_, e9, _, q9, v9⟩ := hO 259 (by decide)
    cases e9
    have q9 : wc.cell? ⟨ad.block, ad.off + 259, none⟩ = _ := q9
    clear hO
    by_cases hE : Pl.Ends V 260
    · obtain rfl : b = true := by rw [← HB.out]; exact str_same (ends_same hE)
      have hN : numberOf V = V 256 + 256 * V 257 + 65536 * V 258 + 16777216 * V 259 := rfl
      have hsm := number_small HV.out
      obtain ⟨N, hNN⟩ : ∃ N, numberOf V = N := ⟨_, rfl⟩
      have HNN := Lib.hid hNN
      rw [hNN] at hN hsm
      have HN := Lib.hid hN
      have HSM := Lib.hid hsm
      clear hsm hN hNN
      have HVe := Lib.hid (show ∀ k, k < 4 → ((V (256 + k) : Nat) : Int) < 256 from fun k hk => by have := HV.out (256 + k) (by omega); omega)
      generalize V 256 = y6 at q6 v6 HN
      generalize V 257 = y7 at q7 v7 HN HSM
      generalize V 258 = y8 at q8 v8 HN HSM
      generalize V 259 = y9 at q9 v9 HN HSM
      by_cases h7 : y7 ≤ 15
      · have d7 : decide ((15 : Int) < (y7 : Int)) = false := by simp; omega
        by_cases h8 : y8 = 0
        · have d8 : decide ((0 : Int) < (y8 : Int)) = false := by simp; omega
          by_cases h9 : y9 = 0
          · have d9 : decide ((0 : Int) < (y9 : Int)) = false := by simp; omega
            have w7 : IntKind.i64.wrap (256 * (y7 : Int)) = 256 * (y7 : Int) := IntWalk.i64_in _ (by omega)
            have hNi : (y6 : Int) + 256 * (y7 : Int) = (N : Int) := by have := HN.out; omega
            have w8 : IntKind.i64.wrap (N : Int) = (N : Int) := IntWalk.i64_in _ (by omega)
            have HQ : ∀ k, (wc.drewN k).cell? ⟨ad.block, ad.off + 256, none⟩ = some (.int .u8 (y6 : Int)) ∧ (wc.drewN k).cell? ⟨ad.block, ad.off + 257, none⟩ = some (.int .u8 (y7 : Int)) := fun k => ⟨q6, q7⟩
            go_wp2_with fail
            go_quiet (fail)
            go_wp2_with fail
            go_ret3
            exact ⟨fun h => by omega, fun h => by omega, fun _ h => absurd hE h, fun _ _ h => absurd h (by rw [HNN.out]; have := HSM.out; omega), fun _ _ _ => by rw [HNN.out]; rfl, below_drewN' hB _⟩
          · have d9 : decide ((0 : Int) < (y9 : Int)) = true := by simp; omega
            go_wp2_with fail
            go_ret3
            exact ⟨fun h => by omega, fun h => by omega, fun _ h => absurd hE h, fun _ _ _ => rfl, fun _ _ h => absurd h (by rw [HNN.out]; have := HSM.out; omega), hB⟩
        · have d8 : decide ((0 : Int) < (y8 : Int)) = true := by simp; omega
          go_wp2_with fail
          go_ret3
          exact ⟨fun h => by omega, fun h => by omega, fun _ h => absurd hE h, fun _ _ _ => rfl, fun _ _ h => absurd h (by rw [HNN.out]; have := HSM.out; omega), hB⟩
      · have d7 : decide ((15 : Int) < (y7 : Int)) = true := by simp; omega
        go_wp2_with fail
        go_ret3
        exact ⟨fun h => by omega, fun h => by omega, fun _ h => absurd hE h, fun _ _ _ => rfl, fun _ _ h => absurd h (by rw [HNN.out]; have := HSM.out; omega), hB⟩
    · obtain rfl : b = false := by rw [← HB.out]; exact str_unlike (ends_unlike HV.out hE)
      go_wp2_with fail
      go_ret3
      exact ⟨fun h => by omega, fun h => by omega, fun _ _ => rfl, fun _ h => absurd h hE, fun _ h => absurd h hE, hB⟩

set_option maxRecDepth 100000 in
set_option maxHeartbeats 800000 in
theorem refPageGet_any (A : Option Addr) (n c : Nat) (V : Nat → Nat) (w : World) (hA : A = none → n = 0 ∧ c = 0) (hc : n ≤ c) (ho : Bys w w.heap.size A n V) :
    Calls Tryd.prog 35 #[.slice A n c] w (RefGetPost w A n c V) := by
  by_cases h1 : n < 264
  · have hd : decide ((n : Int) < 264) = true := by simp; omega
    go_enter Tryd.func35, Tryd.ntmps35
    go_wp2_with fail
    go_ret3
    exact ⟨fun _ => rfl, fun h => by omega, fun h => by omega, fun h => by omega, fun h => by omega, Below.refl _ _⟩
  · by_cases h2 : 264 < n
    · have hd : decide ((n : Int) < 264) = false := by simp; omega
      have hd2 : decide ((264 : Int) < (n : Int)) = true := by simp; omega
      go_enter Tryd.func35, Tryd.ntmps35
      go_wp2_with fail
      go_ret3
      exact ⟨fun h => by omega, fun _ => rfl, fun h => by omega, fun h => by omega, fun h => by omega, Below.refl _ _⟩
    · obtain rfl : n = 264 := by omega
      rcases A with _ | ad
      · exact absurd (hA rfl).1 (by decide)
      · exact refPageGet_sized ad c V w hc ho
end Go.Proofs.YtbepoohphmicdaaDoor
