/- cmp.Compare over ints; slices.SortStableFunc over ints: stableCmpFunc, SortStableFunc. -/
import Derived.Test.YtjloepepnjcpiaaStIns
import Derived.Test.YtjloepepnjcpiaaStMerge
namespace Go.Proofs.Ytjloepepnjcpiaa
open Go.RowKit

/-- what cmp.Compare tells of two ints. -/
def cmpI (x y : Int) : Int := if x < y then -1 else if y < x then 1 else 0
theorem cmpI_neg (x y : Int) : cmpI x y < 0 ↔ x < y := by
  unfold cmpI
  split
  · omega
  · split <;> omega
set_option maxRecDepth 100000 in
theorem notNaN_any (x : Int) (w : World) : Calls Try.prog 36 #[.int .i64 x] w fun e w' => e = .returned (.bool false) ∧ w = w' := by
  have h : (x != x) = false := by simp
  go_enter Try.func36, Try.ntmps36
  go_wp2_with fail
  go_ret
  exact ⟨rfl, rfl⟩
set_option maxRecDepth 100000 in
set_option maxHeartbeats 800000 in
theorem compare_ints (x y : Int) (w : World) : Calls Try.prog 32 #[.int .i64 x, .int .i64 y] w fun e w' => e = .returned (.int .i64 (cmpI x y)) ∧ w = w' := by
  have H1 := Lib.hid (notNaN_any x w)
  have H2 := Lib.hid (notNaN_any y w)
  obtain ⟨v, hv⟩ : ∃ v, cmpI x y = v := ⟨_, rfl⟩
  rw [hv]
  unfold cmpI at hv
  rcases Int.lt_trichotomy x y with h | h | h
  · rw [if_pos h] at hv
    subst hv
    go_enter Try.func32, Try.ntmps32
    go_wp2_with (go_at_call 36; first | ((with_reducible refine H1.out.mono ?_); rintro e w' ⟨rfl, rfl⟩) | ((with_reducible refine H2.out.mono ?_); rintro e w' ⟨rfl, rfl⟩))
    go_ret
    exact ⟨rfl, rfl⟩
  · subst h
    rw [if_neg (Int.lt_irrefl x), if_neg (Int.lt_irrefl x)] at hv
    subst hv
    have h1 : ¬ x < x := Int.lt_irrefl x
    go_enter Try.func32, Try.ntmps32
    go_wp2_with (go_at_call 36; first | ((with_reducible refine H1.out.mono ?_); rintro e w' ⟨rfl, rfl⟩) | ((with_reducible refine H2.out.mono ?_); rintro e w' ⟨rfl, rfl⟩))
    go_ret
    exact ⟨rfl, rfl⟩
  · have h1 : ¬ x < y := by omega
    rw [if_neg h1, if_pos h] at hv
    subst hv
    go_enter Try.func32, Try.ntmps32
    go_wp2_with (go_at_call 36; first | ((with_reducible refine H1.out.mono ?_); rintro e w' ⟨rfl, rfl⟩) | ((with_reducible refine H2.out.mono ?_); rintro e w' ⟨rfl, rfl⟩))
    go_ret
    exact ⟨rfl, rfl⟩
section
variable {w0 w : World} {s n g : Nat} {cb : Array Value} {K : Nat → Int} {D : Nat → Nat}

set_option maxRecDepth 100000 in
set_option maxHeartbeats 3200000 in
theorem stable_any (c : Nat) (hn : n ≤ 4194304) (hC : CmpAt w0 s n g cb K) (hS : StAt w0 w s n D) (hD : ∀ i, i < n → D i = i) :
    Calls Try.prog 35 #[.slice (some ⟨s, 0, none⟩) n c, .int .i64 (n : Int), .func (.func g) #[] cb] w fun e w' => e = .returned (.tuple #[]) ∧ ∃ D', StAt w0 w' s n D' ∧ SortedN K D' 0 n := by
  have HSt := Lib.hid hS
  have HD := Lib.hid hD
  have HC := Lib.hid hC
  clear hS hD hC
  go_enter Try.func35, Try.ntmps35
  go_wp2_with fail
  go_loopw [7, 8] (fun u v wr => ∃ r a b : Nat, a ≤ n ∧ Hid (b = a + 20) ∧ u = .int .i64 (a : Int) ∧ v = .int .i64 (b : Int) ∧ Hid (a = r * 20 ∧ ∃ D1, StAt w0 wr s n D1 ∧ Blk K D1 20 0 a ∧ ∀ i, a ≤ i → i < n → D1 i = i)) (fun _ v _ => n + 21 - (intOf v).toNat)
  case atStart => exact ⟨0, 0, 20, Nat.zero_le _, Lib.hid rfl, rfl, rfl, Lib.hid ⟨by omega, D, HSt.out, Blk.none _, fun i _ hi => HD.out i hi⟩⟩
  case round =>
    clear HSt HD
    obtain ⟨r, a, b, han, HAB, rfl, rfl, hh⟩ := hrel
    have hab := HAB.out
    obtain ⟨har, D1, hS1, hB1, hI1⟩ := hh.out
    clear hh
    by_cases hbn : b ≤ n
    · have hbni : (b : Int) ≤ (n : Int) := by omega
      have w1 : IntKind.i64.wrap ((b : Int) + 20) = ((b + 20 : Nat) : Int) := by rw [IntWalk.i64_in _ (by omega)]; omega
      have HIns := Lib.hid ((insertion_any c a b hn (by omega) hbn HC.out hS1 (fun i j h1 h2 h3 => by rw [hI1 i h1 (by omega), hI1 j (by omega) (by omega)]; exact h2)).mono (R' := fun e w' => e = .returned (.tuple #[]) ∧ Hid (b = (r + 1) * 20 ∧ ∃ D1, StAt w0 w' s n D1 ∧ Blk K D1 20 0 b ∧ ∀ i, b ≤ i → i < n → D1 i = i)) fun e w' hh => ⟨hh.1, Lib.hid (by
        obtain ⟨D2, h1, h2⟩ := hh.2
        refine ⟨by omega, D2, h1, ?_, fun i q1 q2 => by rw [h2.1.1 i (by omega)]; exact hI1 i (by omega) q2⟩
        rw [har] at hB1 h2
        exact hB1.snoc (by omega) (by omega) h2.1 h2.2 (fun i q1 q2 => by rw [hI1 i (by omega) (by omega)]; exact ⟨q1, q2⟩))⟩)
      obtain ⟨b', hb'⟩ : ∃ b', b + 20 = b' := ⟨_, rfl⟩
      rw [hb'] at w1
      have hbb := Lib.hid hb'.symm
      have hble : b ≤ b' := by omega
      have hblt : b < b' := by omega
      clear hab
      clear hS1 hB1 hI1 har hb'
      go_wp2_with fail
      with_reducible refine HIns.out.mono ?_
      rintro e w2 ⟨rfl, hh⟩
      clear HIns
      go_wp2_with fail
      go_roundw
      case rel => exact ⟨r + 1, b, b', hbn, hbb, rfl, rfl, hh⟩
      case measure => simp [intOf]; omega
    · have hbni : ¬ (b : Int) ≤ (n : Int) := by omega
      have HIns := Lib.hid ((insertion_any c a n hn han (Nat.le_refl _) HC.out hS1 (fun i j h1 h2 h3 => by rw [hI1 i h1 (by omega), hI1 j (by omega) (by omega)]; exact h2)).mono (R' := fun e w' => e = .returned (.tuple #[]) ∧ Hid (∃ D1, StAt w0 w' s n D1 ∧ Blk K D1 20 0 n)) fun e w' hh => ⟨hh.1, Lib.hid (by
        obtain ⟨D2, h1, h2⟩ := hh.2
        refine ⟨D2, h1, ?_⟩
        rw [har] at hB1 h2
        exact hB1.snoc (by omega) (by omega) h2.1 h2.2 (fun i q1 q2 => by rw [hI1 i (by omega) (by omega)]; exact ⟨q1, q2⟩))⟩)
      clear hS1 hB1 hI1 har hab
      go_wp2_with fail
      with_reducible refine HIns.out.mono ?_
      rintro e w2 ⟨rfl, hh⟩
      clear HIns
      go_wp2_with fail
      go_loopw [6] (fun v wr => ∃ B : Nat, 20 ≤ B ∧ (B = 20 ∨ B ≤ 2 * n) ∧ v = .int .i64 (B : Int) ∧ Hid (∃ D1, StAt w0 wr s n D1 ∧ Blk K D1 B 0 n)) (fun v _ => n - (intOf v).toNat)
      case atStart => exact ⟨20, Nat.le_refl _, .inl rfl, rfl, hh⟩
      case round =>
        clear hh
        obtain ⟨B, hB, hB2, rfl, hh⟩ := hrel
        by_cases hlt : B < n
        · have hlti : (B : Int) < (n : Int) := by omega
          obtain ⟨B2, hB22⟩ : ∃ B2, 2 * B = B2 := ⟨_, rfl⟩
          have v1 : IntKind.i64.wrap (2 * (B : Int)) = (B2 : Int) := by rw [IntWalk.i64_in _ (by omega)]; omega
          have v2 : IntKind.i64.wrap ((B : Int) * 2) = (B2 : Int) := by rw [IntWalk.i64_in _ (by omega)]; omega
          have HB22 := Lib.hid hB22
          have b2n : B2 ≤ 2 * n := by omega
          have b20 : 20 ≤ B2 := by omega
          have b2b : B < B2 := by omega
          clear hB2 hB22
          go_wp2_with fail
          go_loopw [7, 8] (fun u v wr => ∃ r a b : Nat, a ≤ n ∧ Hid (b = a + B2) ∧ u = .int .i64 (a : Int) ∧ v = .int .i64 (b : Int) ∧ Hid (a = r * B2 ∧ ∃ D1, StAt w0 wr s n D1 ∧ Blk K D1 B2 0 a ∧ Blk K D1 B a n)) (fun _ v _ => n + B2 + 1 - (intOf v).toNat)
          case atStart =>
            obtain ⟨D1, h1, h2⟩ := hh.out
            exact ⟨0, 0, B2, Nat.zero_le _, Lib.hid (by omega), rfl, rfl, Lib.hid ⟨by omega, D1, h1, Blk.none _, h2⟩⟩
          case round =>
            clear hh
            obtain ⟨r, a, b, han, HAB, rfl, rfl, hh⟩ := hrel
            have hab := HAB.out
            obtain ⟨har, D1, hS1, hB1, hB1'⟩ := hh.out
            clear hh
            have hB22 := HB22.out
            have har2 : a = r * (2 * B) := by rw [hB22]; exact har
            obtain ⟨m, hm⟩ : ∃ m, a + B = m := ⟨_, rfl⟩
            have w2 : IntKind.i64.wrap ((a : Int) + (B : Int)) = (m : Int) := by rw [IntWalk.i64_in _ (by omega)]; omega
            by_cases hbn : b ≤ n
            · have hbni : (b : Int) ≤ (n : Int) := by omega
              have w1 : IntKind.i64.wrap ((b : Int) + (B2 : Int)) = ((b + B2 : Nat) : Int) := by rw [IntWalk.i64_in _ (by omega)]; omega
              obtain ⟨t1, t2, t3, t4⟩ := hB1'.two har2 (by omega) (by omega) (hi := b) (by omega)
              rw [hm] at t1 t2 t3
              have HSym := Lib.hid ((sym_good c hn HC.out (b - a) a m b _ D1 (Nat.le_refl _) (by omega) (by omega) hbn hS1 t1 t2 t3).mono (R' := fun e w' => e = .returned (.tuple #[]) ∧ Hid (b = (r + 1) * B2 ∧ ∃ D1, StAt w0 w' s n D1 ∧ Blk K D1 B2 0 b ∧ Blk K D1 B b n)) fun e w' hh => ⟨hh.1, Lib.hid (by
                obtain ⟨D2, h1, h2⟩ := hh.2
                refine ⟨by rw [Nat.succ_mul, ← har]; exact hab, D2, h1, ?_, hB1'.rest (by omega) h2.1⟩
                rw [har] at hB1 h2 t4
                exact hB1.snoc (by omega) (by omega) h2.1 h2.2 t4)⟩)
              obtain ⟨b', hb'⟩ : ∃ b', b + B2 = b' := ⟨_, rfl⟩
              rw [hb'] at w1
              have hbb := Lib.hid hb'.symm
              have hble : b ≤ b' := by omega
              have hblt : b < b' := by omega
              clear hab
              clear hS1 hB1 hB1' har hb' hm har2 t1 t2 t3 t4 hB22
              go_wp2_with fail
              with_reducible refine HSym.out.mono ?_
              rintro e w2 ⟨rfl, hh⟩
              clear HSym
              go_wp2_with fail
              go_roundw
              case rel => exact ⟨r + 1, b, b', hbn, hbb, rfl, rfl, hh⟩
              case measure => simp [intOf]; omega
            · have hbni : ¬ (b : Int) ≤ (n : Int) := by omega
              by_cases hmn : m < n
              · have hmni : (m : Int) < (n : Int) := by omega
                obtain ⟨t1, t2, t3, t4⟩ := hB1'.two har2 (by omega) (by omega) (hi := n) (by omega)
                rw [hm] at t1 t2 t3
                have HSym := Lib.hid ((sym_good c hn HC.out (n - a) a m n _ D1 (Nat.le_refl _) (by omega) hmn (Nat.le_refl _) hS1 t1 t2 t3).mono (R' := fun e w' => e = .returned (.tuple #[]) ∧ Hid (∃ D1, StAt w0 w' s n D1 ∧ Blk K D1 B2 0 n)) fun e w' hh => ⟨hh.1, Lib.hid (by
                  obtain ⟨D2, h1, h2⟩ := hh.2
                  refine ⟨D2, h1, ?_⟩
                  rw [har] at hB1 h2 t4
                  exact hB1.snoc (by omega) (by omega) h2.1 h2.2 t4)⟩)
                clear hS1 hB1 hB1' har hm har2 t1 t2 t3 t4 hB22 hab
                go_wp2_with fail
                with_reducible refine HSym.out.mono ?_
                rintro e w2 ⟨rfl, hh⟩
                clear HSym
                go_wp2_with fail
                go_roundw
                case rel => exact ⟨B2, b20, .inr b2n, rfl, hh⟩
                case measure => simp [intOf]; omega
              · have hmni : ¬ (m : Int) < (n : Int) := by omega
                obtain ⟨t1, t2⟩ := hB1'.one har2 han (by omega)
                have hh : Hid (∃ D1, StAt w0 _ s n D1 ∧ Blk K D1 B2 0 n) := Lib.hid ⟨D1, hS1, by
                  rw [har] at hB1 t1 t2
                  exact hB1.snoc (by omega) (by omega) (SameIn.refl _ _ _) t1 t2⟩
                clear hS1 hB1 hB1' har hm har2 t1 t2 hB22 hab
                go_wp2_with fail
                go_roundw
                case rel => exact ⟨B2, b20, .inr b2n, rfl, hh⟩
                case measure => simp [intOf]; omega
        · have hge : ¬ (B : Int) < (n : Int) := by omega
          go_wp2_with fail
          go_end0
          obtain ⟨D1, h1, h2⟩ := hh.out
          exact ⟨rfl, D1, h1, (h2.done (by omega)).1⟩

set_option maxRecDepth 100000 in
theorem sortStable_any (c : Nat) (hn : n ≤ 4194304) (hC : CmpAt w0 s n g cb K) (hS : StAt w0 w s n D) (hD : ∀ i, i < n → D i = i) :
    Calls Try.prog 30 #[.slice (some ⟨s, 0, none⟩) n c, .func (.func g) #[] cb] w fun e w' => e = .returned (.tuple #[]) ∧ ∃ D', StAt w0 w' s n D' ∧ SortedN K D' 0 n := by
  have H := Lib.hid (stable_any c hn hC hS hD)
  clear hC hS hD
  go_enter Try.func30, Try.ntmps30
  go_wp2_with fail
  refine H.out.mono ?_
  rintro e w' ⟨rfl, h⟩
  have H2 := Lib.hid h
  clear h H
  go_wp2_with fail
  go_end0
  exact ⟨rfl, H2.out⟩
end
end Go.Proofs.Ytjloepepnjcpiaa
