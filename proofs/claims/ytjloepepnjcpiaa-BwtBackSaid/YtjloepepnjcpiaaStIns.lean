/- slices.SortStableFunc over ints: insertionSortCmpFunc. -/
import Derived.Test.YtjloepepnjcpiaaStSort
import Derived.Shelf.Abstract
namespace Go.Proofs.Ytjloepepnjcpiaa
open Go.RowKit
section
variable {w0 w : World} {s n g : Nat} {cb : Array Value} {K : Nat → Int} {D : Nat → Nat}

set_option maxRecDepth 100000 in
set_option maxHeartbeats 1600000 in
theorem insertion_any (c a b : Nat) (hn : n ≤ 4194304) (hab : a ≤ b) (hb : b ≤ n) (hC : CmpAt w0 s n g cb K) (hS : StAt w0 w s n D) (hr : ∀ i j, a ≤ i → i < j → j < b → D i < D j) :
    Calls Try.prog 41 #[.slice (some ⟨s, 0, none⟩) n c, .int .i64 (a : Int), .int .i64 (b : Int), .func (.func g) #[] cb] w fun e w' => e = .returned (.tuple #[]) ∧ ∃ D', StAt w0 w' s n D' ∧ Merged K D D' a b := by
  have HS := Lib.hid hS
  have HR := Lib.hid hr
  have HC := Lib.hid hC.cmp
  have eg := hC.eg
  clear hS hr hC
  go_enter Try.func41, Try.ntmps41
  go_wp2_with fail
  go_loopw [8] (fun v wr => ∃ i : Nat, a < i ∧ i ≤ b + 1 ∧ v = .int .i64 (i : Int) ∧ Hid (∃ D1, StAt w0 wr s n D1 ∧ SameIn D D1 a (min i b) ∧ SortedN K D1 a (min i b))) (fun v _ => b + 1 - (intOf v).toNat)
  case atStart => exact ⟨a + 1, by omega, by omega, by go_num, Lib.hid ⟨D, HS.out, SameIn.refl _ _ _, fun i j h1 h2 h3 => by omega⟩⟩
  case round =>
    clear HS
    obtain ⟨i, hai, hib, rfl, hD⟩ := hrel
    by_cases hlt : i < b
    · have hlti : (i : Int) < (b : Int) := by omega
      obtain ⟨D1, hD1, hsame, hsort⟩ := hD.out
      rw [Nat.min_eq_left (by omega)] at hsame hsort
      have HD1 := Lib.hid hD1
      have HSame := Lib.hid hsame
      have HSort := Lib.hid hsort
      have hcross : ∀ k, a ≤ k → k < i → D1 k < D1 i := fun k h1 h2 => by
        obtain ⟨j', q1, q2, q3⟩ := hsame.2 k h1 h2
        rw [q3, hsame.1 i (by omega)]
        exact HR.out j' i q1 q2 hlt
      have HCr := Lib.hid hcross
      clear hD hD1 hsame hsort hcross
      go_wp2_with fail
      go_loopw [9] (fun v wq => ∃ j : Nat, a ≤ j ∧ j ≤ i ∧ v = .int .i64 (j : Int) ∧ Hid (StAt w0 wq s n (shR D1 i j)) ∧ Hid (∀ x, j ≤ x → x < i → AheadOf K (D1 i) (D1 x))) (fun v _ => (intOf v).toNat)
      case atStart => exact ⟨i, by omega, Nat.le_refl _, rfl, Lib.hid (by rw [shR_one]; exact HD1.out), Lib.hid fun x h1 h2 => by omega⟩
      case round =>
        clear HD1
        obtain ⟨j, haj, hji, rfl, hSt, hup⟩ := hrel
        have out : (∀ x, a ≤ x → x < j → AheadOf K (D1 x) (D1 i)) → ∀ q, Hid (∃ D2, StAt w0 (wr.drewN q) s n D2 ∧ SameIn D D2 a (min (i + 1) b) ∧ SortedN K D2 a (min (i + 1) b)) := fun h q => Lib.hid ⟨_, hSt.out.drewN q, by
          rw [Nat.min_eq_left (by omega)]
          exact (HSame.out.mono (Nat.le_refl _) (by omega)).trans (same_shR haj hji (by omega)), by
          rw [Nat.min_eq_left (by omega)]
          exact shR_sorted haj hji HSort.out h hup.out⟩
        have HOut := Lib.hid out
        clear out
        by_cases hja : a < j
        · obtain ⟨p, rfl⟩ : ∃ p, j = p + 1 := ⟨j - 1, by omega⟩
          have hgu : decide ((a : Int) < ((p + 1 : Nat) : Int)) = true := decide_eq_true (by omega)
          have hgu' : (a : Int) < ((p + 1 : Nat) : Int) := by omega
          have c1 := hSt.out.cell (i := p + 1) (by omega)
          have c2 := hSt.out.cell (i := p) (by omega)
          rw [shR_at] at c1
          rw [shR_low D1 (by omega)] at c2
          have f1 := hSt.out.free (p + 1)
          have f2 := hSt.out.free p
          have l1 := hSt.out.lt (p + 1) (by omega)
          have l2 := hSt.out.lt p (by omega)
          rw [shR_at] at l1
          rw [shR_low D1 (by omega)] at l2
          obtain ⟨z, hz, hcall⟩ := HC.out wr hSt.out.below _ _ l1 l2
          have hcx := HCr.out p (by omega) (by omega)
          have HCall : ∀ t, Hid (Calls Try.prog g (#[.int .i64 ((D1 i : Nat) : Int), .int .i64 ((D1 p : Nat) : Int)] ++ cb) (wr.drewN t) fun e w' => e = .returned (.int .i64 z) ∧ ∃ q, w' = wr.drewN q) := fun t => Lib.hid ((hcall t).mono fun e w' hh => by
            obtain ⟨h1, q, h2⟩ := hh
            exact ⟨h1, _, h2.trans (World.drewN_drewN _ _ _)⟩)
          have w1 : IntKind.i64.wrap (((p + 1 : Nat) : Int) - 1) = (p : Int) := by rw [IntWalk.i64_in _ (by omega)]; omega
          have b1 : p + 1 < n := by omega
          have b2 : p < n := by omega
          by_cases hlv : z < 0
          · have hd : decide (z < 0) = true := decide_eq_true hlv
            have hup2 : Hid (∀ x, p ≤ x → x < i → AheadOf K (D1 i) (D1 x)) := Lib.hid fun x h1 h2 => by
              by_cases e : x = p
              · rw [e]; exact .inl (hz.1 hlv)
              · exact hup.out x (by omega) h2
            have HSw : Hid (∀ q, StAt w0 (((wr.drewN q).setCell ⟨s, p + 1, none⟩ (.int .i64 ((D1 p : Nat) : Int))).setCell ⟨s, p, none⟩ (.int .i64 ((D1 i : Nat) : Int))) s n (shR D1 i p)) := Lib.hid fun q => by
              have := (hSt.out.drewN q).swap (i := p + 1) (j := p) (by omega) (by omega)
              rw [shR_step D1 (by omega), shR_at, shR_low D1 (by omega)] at this
              exact this
            clear hz hcall hcx hup HOut l1 l2
            generalize D1 i = v1 at c1 HSw HCall hup2 ⊢
            generalize D1 p = v2 at c2 HSw HCall
            have lne : p < p + 1 := Nat.lt_succ_self p
            generalize hx : p + 1 = x at c1 f1 HSw w1 b1 hgu hgu' lne
            have HX := Lib.hid hx
            have bx : (x : Int) < (n : Int) := by omega
            have bp : (p : Int) < (n : Int) := by omega
            have hxi : x ≤ i := by omega
            have hap : a ≤ p := by omega
            clear hx hSt
            go_wp2_with fail
            go_quiet ((go_at_fn g; with_reducible exact (HCall _).out))
            go_wp2_with fail
            have c1' : (wr.drewN nq).cell? ⟨s, x, none⟩ = some (.int .i64 (v1 : Int)) := c1
            have c2' : (wr.drewN nq).cell? ⟨s, p, none⟩ = some (.int .i64 (v2 : Int)) := c2
            have f1' : (wr.drewN nq).frozen? ⟨s, x, none⟩ = false := f1
            have f2' : (wr.drewN nq).frozen? ⟨s, p, none⟩ = false := f2
            have hs' : Hid (StAt w0 (((wr.drewN nq).setCell ⟨s, x, none⟩ (.int .i64 (v2 : Int))).setCell ⟨s, p, none⟩ (.int .i64 (v1 : Int))) s n (shR D1 i p)) := Lib.hid (HSw.out nq)
            clear c1 c2 f1 f2 HSw HCall
            generalize wr.drewN nq = w3 at c1' c2' f1' f2' hs' ⊢
            go_big_region
            all_goals go_wp2_with fail
            all_goals go_roundw
            case rel => exact ⟨p, hap, by omega, by go_num, Lib.hid (hs'.out.drewN 1), hup2⟩
            case measure => simp [intOf]; omega
          · have hd : decide (z < 0) = false := decide_eq_false hlv
            have hO2 := HOut.out fun x h1 h2 => SortedN.le HSort.out h1 (show x ≤ p by omega) (by omega) (not_cross_ahead hcx (fun h => hlv (hz.2 h)))
            have HO2 := Lib.hid hO2
            clear hz hcall hcx hup HOut hO2 l1 l2 hSt
            generalize D1 i = v1 at c1 HCall
            generalize D1 p = v2 at c2 HCall
            generalize hx : p + 1 = x at c1 f1 w1 b1 hgu hgu'
            have HX := Lib.hid hx
            have bx : (x : Int) < (n : Int) := by omega
            have bp : (p : Int) < (n : Int) := by omega
            clear hx
            go_wp2_with fail
            go_quiet ((go_at_fn g; with_reducible exact (HCall _).out))
            go_wp2_with fail
            go_roundw
            case rel => exact ⟨i + 1, by omega, by omega, by go_num, HO2.out _⟩
            case measure => simp [intOf]; omega
        · have hgu : decide ((a : Int) < (j : Int)) = false := decide_eq_false (by omega)
          have hgu' : ¬ (a : Int) < (j : Int) := by omega
          have hO2 := HOut.out fun x h1 h2 => by omega
          have HO2 := Lib.hid hO2
          clear hO2 HOut hSt hup
          go_wp2_with fail
          go_quiet (fail)
          go_wp2_with fail
          go_roundw
          case rel => exact ⟨i + 1, by omega, by omega, by go_num, HO2.out _⟩
          case measure => simp [intOf]; omega
    · have hge : ¬ (i : Int) < (b : Int) := by omega
      go_wp2_with fail
      go_end0
      obtain ⟨D1, h1, h2, h3⟩ := hD.out
      rw [Nat.min_eq_right (by omega)] at h2 h3
      exact ⟨rfl, D1, h1, h2, h3⟩
end
end Go.Proofs.Ytjloepepnjcpiaa
