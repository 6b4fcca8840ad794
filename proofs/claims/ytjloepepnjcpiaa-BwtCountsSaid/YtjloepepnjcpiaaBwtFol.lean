/- The developers' package bwt: followers, endsAt, round. -/
import Derived.Test.YtjloepepnjcpiaaBwtDev
import Derived.Test.YtjloepepnjcpiaaStable
namespace Go.Proofs.Ytjloepepnjcpiaa
open Go.RowKit

set_option maxRecDepth 100000 in
set_option maxHeartbeats 800000 in
/-- the closure: which of two places has the lesser number. -/
theorem follow1_any (A : Option Addr) (n c b2 B : Nat) (V : Nat → Int) (W : World) (hb : W.cell? ⟨b2, 0, none⟩ = some (.slice A n c)) (ho : Its W B A n V) (x y : Nat) (hx : x < n) (hy : y < n) :
    Calls Try.prog 31 #[.int .i64 (x : Int), .int .i64 (y : Int), .pointer (some ⟨b2, 0, none⟩)] W fun e w' => e = .returned (.int .i64 (cmpI (V x) (V y))) ∧ ∃ q, w' = W.drewN q := by
  obtain ⟨ad, rfl, _, c1, _⟩ := ho x hx
  obtain ⟨ad', e, _, c2, _⟩ := ho y hy
  cases e
  have HC : ∀ z, Hid (Calls Try.prog 32 #[.int .i64 (V x), .int .i64 (V y)] (W.drewN z) fun e w' => e = .returned (.int .i64 (cmpI (V x) (V y))) ∧ ∃ j, w' = W.drewN j) := fun z => Lib.hid ((compare_ints (V x) (V y) (W.drewN z)).mono fun e w' h => ⟨h.1, z, h.2.symm⟩)
  have xn : (x : Int) < (n : Int) := by omega
  have yn : (y : Int) < (n : Int) := by omega
  generalize cmpI (V x) (V y) = r at HC ⊢
  generalize V x = vx at c1 HC
  generalize V y = vy at c2 HC
  clear ho
  go_enter Try.func31, Try.ntmps31
  go_wp2_with fail
  go_quiet ((go_at_call 32; with_reducible exact (HC _).out))
  go_wp2_with fail
  go_ret
  exact ⟨rfl, _, rfl⟩
theorem follow_cmp (A : Option Addr) (n c b2 s : Nat) (V : Nat → Int) (w0 : World) (hbs : b2 < s) (hb : w0.cell? ⟨b2, 0, none⟩ = some (.slice A n c)) (ho : Its w0 s A n V) : CmpAt w0 s n 31 #[.pointer (some ⟨b2, 0, none⟩)] V where
  eg := fun _ _ => rfl
  cmp := fun W hW x y hx hy => ⟨cmpI (V x) (V y), cmpI_neg _ _, fun t => follow1_any A n c b2 s V (W.drewN t) (by
    have : (W.drewN t).cell? ⟨b2, 0, none⟩ = w0.cell? ⟨b2, 0, none⟩ := World.cell?_of_block (hW.block b2 hbs)
    rw [this]
    exact hb) (fun k hk => ho.below hW k hk) x y hx hy⟩

/-- what followers leaves. -/
def FollowPost (w : World) (n : Nat) (V : Nat → Int) (e : Ending) (w' : World) : Prop := ∃ (g : Nat) (X : Nat → Int), e = .returned (.slice (some ⟨g, 0, none⟩) n n) ∧ Lies w' g 3 (icells X n) ∧ NextOf V n X ∧ Below w.heap.size w w'

set_option maxRecDepth 100000 in
set_option maxHeartbeats 3200000 in
theorem followers_any (A : Option Addr) (n c : Nat) (V : Nat → Int) (al : Nat) (w : World) (hn : n ≤ 4194304) (h0 : 0 < n) (hal : al ≤ 4194303) (ho : Its w w.heap.size A n V) (hV : ∀ i, i < n → 0 ≤ V i ∧ V i < (al : Int)) :
    Calls Try.prog 22 #[.slice A n c, .int .i64 (al : Int)] w (FollowPost w n V) := by
  unfold FollowPost
  obtain ⟨b2, zb⟩ : ∃ b2, w.heap.size = b2 := ⟨_, rfl⟩
  obtain ⟨w1, hw1⟩ : ∃ w1, w.alloc (.cells #[.slice A n c] 22) = w1 := ⟨_, rfl⟩
  have z1 : w1.heap.size = b2 + 1 := by rw [← hw1, size_alloc, zb]
  have k1 : Below b2 w w1 := by rw [← hw1, ← zb]; exact (Below.refl _ _).alloc (Nat.le_refl _) _
  have c1 : w1.cell? ⟨b2, 0, none⟩ = some (.slice A n c) := by
    have := (lies_new w 22 [.slice A n c]).cell 0
    rw [zb] at this
    rw [← hw1]
    exact this
  have hMk := make_ints0 w1 n hn
  rw [z1] at hMk
  obtain ⟨s, zs⟩ : ∃ s, b2 + 1 = s := ⟨_, rfl⟩
  rw [zs] at hMk z1
  obtain ⟨w2, hw2⟩ : ∃ w2, w1.alloc (.cells (icells (fun _ => 0) n).toArray 3) = w2 := ⟨_, rfl⟩
  have z2 : w2.heap.size = s + 1 := by rw [← hw2, size_alloc, z1]
  have k2 : Below s w1 w2 := by rw [← hw2, ← z1]; exact (Below.refl _ _).alloc (Nat.le_refl _) _
  have l2 : Lies w2 s 3 (icells (fun _ => 0) n) := by rw [← hw2, ← z1]; exact lies_new w1 _ _
  have hbs : b2 < s := by omega
  have c2 : w2.cell? ⟨b2, 0, none⟩ = some (.slice A n c) := (World.cell?_of_block (k2.block b2 hbs)).trans c1
  have k3 : Below b2 w w2 := k1.trans (k2.mono (by omega))
  rw [zb] at ho
  have ho2 : Its w2 s A n V := (ho.below k3).mono_ (by omega)
  have hsz : Hid (w.heap.size = b2 ∧ b2 + 1 = s ∧ w2.heap.size = s + 1) := Lib.hid ⟨zb, zs, z2⟩
  rw [hw2] at hMk
  obtain ⟨r, hfew⟩ := few_any A n c al w2 hn h0 (by omega)
  have HFew := Lib.hid hfew
  have HO := Lib.hid ho2
  have HV := Lib.hid hV
  have HK := Lib.hid k3
  have HL := Lib.hid l2
  rw [zb]
  clear hfew ho ho2 hV k1 k2 k3 l2 z2 zs hw2
  go_enter Try.func22, Try.ntmps22
  go_wp2_with fail
  refine HFew.out.mono ?_
  rintro e w3 ⟨rfl, j, rfl⟩
  have c3 : (w2.drewN j).cell? ⟨b2, 0, none⟩ = some (.slice A n c) := c2
  have HO3 : Hid (Its (w2.drewN j) s A n V) := Lib.hid (HO.out.below (below_drewN' (Below.refl _ _) j))
  have HK3 : Hid (Below b2 w (w2.drewN j)) := Lib.hid (below_drewN' HK.out j)
  have HL3 : Hid (Lies (w2.drewN j) s 3 (icells (fun _ => 0) n)) := Lib.hid (HL.out.drewN j)
  have HZ3 : Hid (w.heap.size = b2 ∧ b2 + 1 = s ∧ (w2.drewN j).heap.size = s + 1) := hsz
  clear HFew HO HK HL hsz c2 c1 z1 zb hw1
  generalize w2.drewN j = w4 at c3 HO3 HK3 HL3 HZ3 ⊢
  rcases r with _ | _
  · obtain ⟨h, zh⟩ : ∃ h, w4.heap.size = h := ⟨_, rfl⟩
    have hsh : s < h := by have := HZ3.out.2.2; omega
    have hne : s ≠ h := by omega
    have hbe := below_any A n c V al w4 hn hal (HO3.out.mono_ (by omega)) HV.out
    rw [zh] at hbe
    obtain ⟨m, hm⟩ : ∃ m, al + 1 = m := ⟨_, rfl⟩
    rw [hm] at hbe
    have HBe := Lib.hid hbe
    have HM := Lib.hid hm
    have alm : al < m := by omega
    clear hbe hm zh hMk
    go_wp2_with fail
    refine HBe.out.mono ?_
    rintro e w5 ⟨rfl, l5, k5⟩
    have c5 : w5.cell? ⟨b2, 0, none⟩ = some (.slice A n c) := (World.cell?_of_block (k5.block b2 (by omega))).trans c3
    have HO5 : Hid (Its w5 s A n V) := Lib.hid (HO3.out.below (k5.mono (by omega)))
    have HK5 : Hid (Below b2 w w5) := Lib.hid (HK3.out.trans (k5.mono (by omega)))
    have HL5 : Hid (Lies w5 s 3 (icells (fun _ => 0) n)) := Lib.hid (HL3.out.below k5 hsh)
    have HH5 := Lib.hid l5
    clear HBe l5 k5 c3 HO3 HK3 HL3 HZ3
    go_wp2_with fail
    go_loopw [35] (fun v wr => ∃ i : Nat, i ≤ n ∧ v = .int .i64 (i : Int) ∧ Hid (∃ U H, Lies wr s 3 (icells U n) ∧ Lies wr h 3 (icells H m) ∧ (∀ j, j < i → U (stepI V n j) = (j : Int)) ∧ ∀ x, x < m → H x = ((belowI V n (x : Int) + aheadI V i (x : Int) : Nat) : Int)) ∧ Hid (Below s w5 wr)) (fun v _ => n - (intOf v).toNat)
    case atStart => exact ⟨0, Nat.zero_le _, rfl, Lib.hid ⟨_, _, HL5.out, HH5.out, fun j hj => absurd hj (Nat.not_lt_zero j), fun x _ => rfl⟩, Lib.hid (Below.refl _ _)⟩
    case round =>
      clear HL5 HH5
      obtain ⟨i, hi, rfl, hU, hb⟩ := hrel
      by_cases hlt : i < n
      · have hlti : (i : Int) < (n : Int) := by omega
        obtain ⟨ad, rfl, _, hc, _⟩ := HO5.out.below hb.out i hlt
        obtain ⟨hv1, hv2⟩ := HV.out i hlt
        obtain ⟨p, hp⟩ : ∃ p : Nat, V i = (p : Int) := ⟨(V i).toNat, by omega⟩
        rw [hp] at hc hv2
        obtain ⟨U, H, hL, hH, hU, hHx⟩ := hU.out
        have hpm : p < m := by omega
        have hst : belowI V n (p : Int) + aheadI V i (p : Int) = stepI V n i := by unfold stepI; rw [hp]
        have htn := stepI_lt (V := V) hlt
        have hch : wr.cell? ⟨h, p, none⟩ = some (.int .i64 ((stepI V n i : Nat) : Int)) := by
          rw [hH.cell, icells_at _ _ _ hpm, hHx _ hpm, hst]
        obtain ⟨t, ht⟩ : ∃ t, stepI V n i = t := ⟨_, rfl⟩
        rw [ht] at hch htn hst
        have hct : wr.cell? ⟨s, t, none⟩ = some (.int .i64 (U t)) := by
          rw [hL.cell, icells_at _ _ _ htn]
        have hft := hL.free t
        have hH2 := hH.far (p := ⟨s, t, none⟩) (by show h ≠ s; omega) (.int .i64 (i : Int))
        have hL2 := hL.put t (.int .i64 (i : Int))
        rw [icells_put] at hL2
        have hch2 : (wr.setCell ⟨s, t, none⟩ (.int .i64 (i : Int))).cell? ⟨h, p, none⟩ = some (.int .i64 (t : Int)) := by
          rw [hH2.cell, icells_at _ _ _ hpm, hHx _ hpm, hst]
        have hfh2 := hH2.free p
        have w3 : IntKind.i64.wrap ((t : Int) + 1) = ((t + 1 : Nat) : Int) := by rw [IntWalk.i64_in _ (by omega)]; omega
        have HN : Hid (∃ U' H', Lies ((wr.setCell ⟨s, t, none⟩ (.int .i64 (i : Int))).setCell ⟨h, p, none⟩ (.int .i64 ((t + 1 : Nat) : Int))) s 3 (icells U' n) ∧ Lies ((wr.setCell ⟨s, t, none⟩ (.int .i64 (i : Int))).setCell ⟨h, p, none⟩ (.int .i64 ((t + 1 : Nat) : Int))) h 3 (icells H' m) ∧ (∀ j, j < i + 1 → U' (stepI V n j) = (j : Int)) ∧ ∀ x, x < m → H' x = ((belowI V n (x : Int) + aheadI V (i + 1) (x : Int) : Nat) : Int)) := Lib.hid ⟨_, _, hL2.far (p := ⟨h, p, none⟩) hne _, by
          have := hH2.put p (.int .i64 ((t + 1 : Nat) : Int))
          rw [icells_put] at this
          exact this, fun j hj => by
          by_cases e : j = i
          · rw [e, ht, if_pos rfl]
          · rw [if_neg (fun e2 => e (stepI_inj (V := V) (n := n) (by omega) hlt (e2.trans ht.symm))), hU j (by omega)], fun x hx => by
          rw [aheadI_succ, hp]
          by_cases e : x = p
          · rw [if_pos e, if_pos (by omega), e]
            omega
          · rw [if_neg e, if_neg (by omega), hHx x hx, Nat.add_zero]⟩
        have HB2 : Hid (Below s w5 ((wr.setCell ⟨s, t, none⟩ (.int .i64 (i : Int))).setCell ⟨h, p, none⟩ (.int .i64 ((t + 1 : Nat) : Int)))) := Lib.hid ((hb.out.setCell (p := ⟨s, t, none⟩) (Nat.le_refl _) _).setCell (p := ⟨h, p, none⟩) (by show s ≤ h; omega) _)
        generalize t + 1 = t1 at w3 HN HB2
        generalize U t = ut at hct
        have btn : (t : Int) < (n : Int) := by omega
        have bpm : (p : Int) < (m : Int) := by omega
        clear hU hHx hL hH hL2 hH2 hst ht hp hb hv1
        go_wp2_with fail
        go_roundw
        case rel => exact ⟨i + 1, by omega, by go_num, HN, HB2⟩
        case measure => simp [intOf]; omega
      · have hin : i = n := by omega
        have hge : ¬ (i : Int) < (n : Int) := by omega
        rw [hin] at hU
        have HF : Hid (∃ U, Lies wr s 3 (icells U n) ∧ NextOf V n U) := Lib.hid (by
          obtain ⟨U, H, h1, _, h3, _⟩ := hU.out
          exact ⟨U, h1, fun p hp => h3 p hp⟩)
        clear hU hin
        go_wp2_with fail
        go_ret
        obtain ⟨U, h1, h2⟩ := HF.out
        exact ⟨s, rfl, U, h1, h2, HK5.out.trans (hb.out.mono (by omega))⟩
  · clear hMk
    go_wp2_with fail
    go_loopw [18] (fun v wr => ∃ i : Nat, i ≤ n ∧ v = .int .i64 (i : Int) ∧ Hid (∃ U, Lies wr s 3 (icells U n) ∧ ∀ j, j < i → U j = (j : Int)) ∧ Hid (Below s w4 wr)) (fun v _ => n - (intOf v).toNat)
    case atStart => exact ⟨0, Nat.zero_le _, rfl, Lib.hid ⟨_, HL3.out, fun j hj => absurd hj (Nat.not_lt_zero j)⟩, Lib.hid (Below.refl _ _)⟩
    case round =>
      clear HL3
      obtain ⟨i, hi, rfl, hU, hb⟩ := hrel
      by_cases hlt : i < n
      · have hlti : (i : Int) < (n : Int) := by omega
        obtain ⟨U, hL, hU⟩ := hU.out
        have hct : wr.cell? ⟨s, i, none⟩ = some (.int .i64 (U i)) := by
          rw [hL.cell, icells_at _ _ _ hlt]
        have hft := hL.free i
        have HN : Hid (∃ U', Lies (wr.setCell ⟨s, i, none⟩ (.int .i64 (i : Int))) s 3 (icells U' n) ∧ ∀ j, j < i + 1 → U' j = (j : Int)) := Lib.hid ⟨_, by
          have := hL.put i (.int .i64 (i : Int))
          rw [icells_put] at this
          exact this, fun j hj => by
          by_cases e : j = i
          · rw [if_pos e, e]
          · rw [if_neg e, hU j (by omega)]⟩
        have HB2 : Hid (Below s w4 (wr.setCell ⟨s, i, none⟩ (.int .i64 (i : Int)))) := Lib.hid (hb.out.setCell (p := ⟨s, i, none⟩) (Nat.le_refl _) _)
        generalize U i = ut at hct
        clear hU hL hb
        go_wp2_with fail
        go_roundw
        case rel => exact ⟨i + 1, by omega, by go_num, HN, HB2⟩
        case measure => simp [intOf]; omega
      · have hin : i = n := by omega
        have hge : ¬ (i : Int) < (n : Int) := by omega
        rw [hin] at hU
        have HS := Lib.hid ((sortStable_any (w0 := w4) (w := wr) (s := s) (n := n) (K := V) (D := fun i => i) n hn (follow_cmp A n c b2 s V w4 hbs c3 HO3.out) (by
          obtain ⟨U, h1, h2⟩ := hU.out
          refine ⟨?_, fun i hi => hi, hb.out⟩
          rw [← icells_congr (U := U) (U' := xi fun i => i) fun j hj => h2 j hj]
          exact h1) (fun i _ => rfl)).mono (R' := fun e w' => e = .returned (.tuple #[]) ∧ Hid (∃ X, Lies w' s 3 (icells X n) ∧ NextOf V n X) ∧ Hid (Below s w4 w')) fun e w' hh => by
            obtain ⟨h1, D', h2, h3⟩ := hh
            exact ⟨h1, Lib.hid ⟨xi D', h2.lies, next_of_sorted h2.lt (fun i j hij hj => h3 i j (Nat.zero_le _) hij hj) (fun i _ => rfl)⟩, Lib.hid h2.below⟩)
        clear hU hin hb
        go_wp2_with fail
        refine HS.out.mono ?_
        rintro e w5 ⟨rfl, hX, hb⟩
        clear HS
        go_wp2_with fail
        go_ret
        obtain ⟨U, h1, h2⟩ := hX.out
        exact ⟨s, U, rfl, h1, h2, HK3.out.trans (hb.out.mono (by omega))⟩
end Go.Proofs.Ytjloepepnjcpiaa
