/- The walk of colophonlaw12.DocsMirrors, over what packages text and docs answer (DocsI). -/
import Derived.Test.YtpdleigcdmgfmaaDocI
namespace Go.Proofs.Ytpdleigcdmgfmaa
open Go.RowKit
section
variable {At : Nat → World → Value → List Sec → Prop}

set_option maxRecDepth 100000 in
set_option maxHeartbeats 3200000 in
theorem dcMirrors_walk (I : DocsI At) (A : Option Addr) (n c : Nat) (V : Nat → Int) (w : World) (ho : ItsR w A n c V) :
    Calls Try.prog 6 #[.slice A n c] w fun e w' => e = .returned (.bool true) ∧ Below w.heap.size w w' := by
  have HI := Lib.hid I
  have HO := Lib.hid ho
  have HF := Lib.hid (dfirst_any I w)
  have hnl : n ≤ 9223372036854775807 := by have := ho.2.1; have := ho.2.2.1; unfold maxLen at this; omega
  clear I ho
  by_cases hbig : 1000 < n
  · have hd : decide ((1000 : Int) < (n : Int)) = true := decide_eq_true (by omega)
    go_enter Try.func6, Try.ntmps6
    go_wp2_with fail
    refine HF.out.mono ?_
    rintro e w0 ⟨rfl, hb0⟩
    go_wp2_with fail
    go_ret
    exact ⟨rfl, hb0⟩
  · have hd : decide ((1000 : Int) < (n : Int)) = false := decide_eq_false (by omega)
    have hn : n ≤ 1000 := by omega
    have HVs := Lib.hid HO.out.2.2.2.small
    obtain ⟨z0, hz0⟩ : ∃ z0 : Int, z0 + 1 = (n : Int) := ⟨(n : Int) - 1, by omega⟩
    have w0' : IntKind.i64.wrap ((n : Int) - 1) = z0 := by rw [IntWalk.i64_in _ (by omega)]; omega
    have HZ0 := Lib.hid hz0
    clear hz0
    go_enter Try.func6, Try.ntmps6
    go_wp2_with fail
    refine HF.out.mono ?_
    rintro e w0 ⟨rfl, hb0⟩
    clear HF
    go_wp2_with fail
    go_loopw [3, 4] (fun u v wr => ∃ (k : Nat) (z : Int), k ≤ n ∧ z + 1 + (k : Int) = (n : Int) ∧ v = .int .i64 z ∧ Hid (wr.ownsRow w.heap.size 3 1 u k (icells (fun j => V (n - 1 - j)) k)) ∧ Below w.heap.size w wr) (fun _ v _ => (intOf v + 1).toNat)
    case atStart => exact ⟨0, z0, Nat.zero_le _, by have := HZ0.out; omega, rfl, Lib.hid (World.ownsRow_nil _ _ _ _), hb0⟩
    case round =>
      obtain ⟨k, z, hk, hz, rfl, hrow, hb⟩ := hrel
      have hbs := hb.size
      by_cases hlt : k < n
      · obtain ⟨q, rfl⟩ : ∃ q : Nat, z = (q : Int) := ⟨z.toNat, by omega⟩
        have hqn : q < n := by omega
        have hqi : (q : Int) < (n : Int) := by omega
        have g1 : decide ((0 : Int) ≤ (q : Int)) = true := by simp
        obtain ⟨ad, rfl, _, hc, _⟩ := (HO.out.2.2.2.below hb) q hqn
        have HQ : Hid (V q = V (n - 1 - k)) := Lib.hid (by rw [show n - 1 - k = q by omega])
        obtain ⟨z2, hz2⟩ : ∃ z2 : Int, z2 + 1 = (q : Int) := ⟨(q : Int) - 1, by omega⟩
        have w2 : IntKind.i64.wrap ((q : Int) - 1) = z2 := by rw [IntWalk.i64_in _ (by omega)]; omega
        have HZ2 : Hid (z2 + 1 = (q : Int) ∧ z2 + 1 + ((k + 1 : Nat) : Int) = (n : Int)) := Lib.hid ⟨hz2, by omega⟩
        have hki : k ≤ 4194304 := by omega
        have hz3 : z2 < (q : Int) := by omega
        have hz4 : -1 ≤ z2 := by omega
        generalize V q = x at hc HQ
        clear hz hz2
        go_wp2_with (at_builtin; refine step_append_int rfl (.tmp 20) (.tmp 25) rfl rfl hrow.out x rfl hbs hki ?_; intro v3 w3 hown3 hb3)
        go_roundw
        case rel => exact ⟨k + 1, z2, by omega, HZ2.out.2, rfl, Lib.hid (by
          rw [icells_snoc, ← HQ.out]
          exact hown3.out), hb.trans hb3⟩
        case measure => simp [intOf]; omega
      · have hkn : k = n := by omega
        have hz1 : z = -1 := by omega
        subst hz1
        have g1 : decide ((0 : Int) ≤ -1) = false := by decide
        rw [hkn] at hrow
        obtain ⟨T, ct, rfl, hit⟩ := ItsR.of_own hrow.out (fun j hj => HVs.out _ (by omega))
        have HT := Lib.hid hit
        have HO1 := Lib.hid (HO.out.below hb)
        have HBk := Lib.hid (HI.out.back A n c V wr (by omega) HO1.out)
        clear hrow hit hz hkn hlt hk hbs
        go_wp2_with fail
        refine HBk.out.mono ?_
        rintro e w1 ⟨⟨A1, c1, rfl, hi1⟩, hb1⟩
        have hB1 := hb.trans (hb1.mono hb.size)
        have HT1 := Lib.hid (HT.out.below hb1)
        have HX1 := Lib.hid hi1
        have HAh := Lib.hid (HI.out.ahead T n ct (fun j => V (n - 1 - j)) w1 (by omega) HT1.out)
        clear HBk hb1 hi1 HT HO1 hb
        go_wp2_with fail
        refine HAh.out.mono ?_
        rintro e w2 ⟨⟨A2, c2, rfl, hi2⟩, hb2⟩
        have hB2 := hB1.trans (hb2.mono hB1.size)
        have HX2 := Lib.hid (HX1.out.below hb2)
        have HY2 := Lib.hid hi2
        clear HAh hb2 hi2 HX1 HT1 hB1
        go_wp2_with fail
        go_loopw [33] (fun v wr => ∃ i : Nat, i ≤ n ∧ v = .int .i64 (i : Int) ∧ Hid (Below w2.heap.size w2 wr)) (fun v _ => n - (intOf v).toNat)
        case atStart => exact ⟨0, Nat.zero_le _, rfl, Lib.hid (Below.refl _ _)⟩
        case round =>
          obtain ⟨i, hi, rfl, hb⟩ := hrel
          by_cases hlt : i < n
          · have hlti : (i : Int) < (n : Int) := by omega
            obtain ⟨j, hj⟩ : ∃ j, n - 1 - i = j := ⟨_, rfl⟩
            have hjn : j < n := by omega
            have hji : (j : Int) < (n : Int) := by omega
            obtain ⟨ad1, rfl, _, c1', _⟩ := (HX2.out.2.2.2.below hb.out) i hlt
            obtain ⟨ad2, rfl, _, c2', _⟩ := (HY2.out.2.2.2.below hb.out) j hjn
            have hm := next_mirror (V := V) hlt
            rw [hj] at hm
            rw [hm] at c2'
            have hr := lastD_room V i
            obtain ⟨x, hx⟩ : ∃ x, lastD V i = x := ⟨_, rfl⟩
            rw [hx] at c1' c2' hr
            obtain ⟨y, hy⟩ : ∃ y, (n : Int) - 1 - x = y := ⟨_, rfl⟩
            rw [hy] at c2'
            have e0 := HZ0.out
            have w3 : IntKind.i64.wrap (z0 - (i : Int)) = (j : Int) := by rw [IntWalk.i64_in _ (by omega)]; omega
            have w4 : IntKind.i64.wrap (z0 - x) = y := by rw [IntWalk.i64_in _ (by omega)]; omega
            have g2 : (y != y) = false := by simp
            have HB2 : ∀ t, Hid (Below w2.heap.size w2 (wr.drewN t)) := fun t => Lib.hid (below_drewN' hb.out t)
            clear hm hx hy hj hb e0 hr
            go_wp2_with fail
            go_quiet (fail)
            go_wp2_with fail
            go_roundw
            case rel => exact ⟨i + 1, by omega, by go_num, HB2 _⟩
            case measure => simp [intOf]; omega
          · have hge : ¬ (i : Int) < (n : Int) := by omega
            have g2 : ((n : Int) == (n : Int)) = true := by rw [beq_iff_eq]
            go_wp2_with fail
            go_ret
            exact ⟨rfl, hB2.trans (hb.out.mono hB2.size)⟩
end
end Go.Proofs.Ytpdleigcdmgfmaa
