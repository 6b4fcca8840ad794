/- The walk of colophonlaw11.BwtKeeps, over what package bwt answers (BwtI). -/
import Derived.Test.YtjloepepnjcpiaaBwtI
namespace Go.Proofs.Ytjloepepnjcpiaa
open Go.RowKit

theorem turned_same {U : Nat → Int} {m : Nat} {s : Nat → Nat} (hs : IsSA U m s) (c : Int) : belowI (turnI U m fun j => ((s j : Nat) : Int)) m c = belowI U m c := by
  have hb : Bij m (fun j => aheadN m (s j)) := ⟨fun i hi => aheadN_lt (hs.1 i hi), fun i j hi hj he => hs.inj hi hj (aheadN_inj (hs.1 i hi) (hs.1 j hj) he)⟩
  rw [belowI_congr (V' := fun j => U (aheadN m (s j))) (fun i _ => turnI_nat U m s i)]
  exact belowI_bij hb U c
theorem turned_in {U : Nat → Int} {m : Nat} {s : Nat → Nat} {P : Int → Prop} (hs : IsSA U m s) (hP : ∀ i, i < m → P (U i)) : ∀ i, i < m → P (turnI U m (fun j => ((s j : Nat) : Int)) i) := fun i hi => by
  rw [turnI_nat]
  exact hP _ (aheadN_lt (hs.1 i hi))
set_option maxRecDepth 100000 in
set_option maxHeartbeats 3200000 in
theorem bwKeeps_walk (I : BwtI) (A : Option Addr) (n ca : Nat) (V : Nat → Nat) (w : World) (hn : n ≤ maxLen) (ho : Bys w w.heap.size A n V) :
    Calls Try.prog 7 #[.slice A n ca] w fun e w' => e = .returned (.bool true) ∧ Below w.heap.size w w' := by
  have HI := Lib.hid I
  have HO := Lib.hid ho
  have HF := Lib.hid (bfirst_any I w)
  have hnl : n ≤ 9223372036854775807 := by unfold maxLen at hn; omega
  clear I ho hn
  go_enter Try.func7, Try.ntmps7
  go_wp2_with fail
  refine HF.out.mono ?_
  rintro e w0 ⟨rfl, hb0⟩
  clear HF
  go_wp2_with fail
  go_loopw [3, 16] (fun u v wr => ∃ i : Nat, i ≤ n ∧ v = .int .i64 (i : Int) ∧ Hid (wr.ownsRow w.heap.size 3 1 u (min i 300) (icells (fun j => ((V j : Nat) : Int)) (min i 300))) ∧ Below w.heap.size w wr) (fun _ v _ => n - (intOf v).toNat)
  case atStart => exact ⟨0, Nat.zero_le _, rfl, Lib.hid (World.ownsRow_nil _ _ _ _), hb0⟩
  case round =>
    obtain ⟨i, hi, rfl, hrow, hb⟩ := hrel
    have hbs := hb.size
    by_cases hlt : i < n
    · have hlti : (i : Int) < (n : Int) := by omega
      obtain ⟨ad, rfl, _, hc, hv⟩ := (HO.out.below hb) i hlt
      by_cases h3 : i < 300
      · have d3 : decide ((i : Int) < 300) = true := decide_eq_true (by omega)
        have e1 : min i 300 = i := by omega
        have e2 : min (i + 1) 300 = i + 1 := by omega
        have HRow : Hid (wr.ownsRow w.heap.size 3 1 u3 i (icells (fun j => ((V j : Nat) : Int)) i)) := Lib.hid (by have h := hrow.out; rwa [e1] at h)
        have hi4 : i ≤ 4194304 := by omega
        have HE2 := Lib.hid e2
        obtain ⟨x, hx⟩ : ∃ x, V i = x := ⟨_, rfl⟩
        rw [hx] at hc hv
        have HX := Lib.hid hx
        have w1 : IntKind.i64.wrap (x : Int) = (x : Int) := IntWalk.i64_in _ (by omega)
        clear hrow e1 e2 hx
        go_wp2_with (at_builtin; refine step_append_int rfl (.tmp 23) (.tmp 26) rfl rfl HRow.out (x : Int) rfl hbs hi4 ?_; intro v3 w3 hown3 hb3)
        go_roundw
        case rel => exact ⟨i + 1, by omega, by go_num, Lib.hid (by
          rw [HE2.out, icells_snoc, HX.out]
          exact hown3.out), hb.trans hb3⟩
        case measure => simp [intOf]; omega
      · have d3 : decide ((i : Int) < 300) = false := decide_eq_false (by omega)
        have e1 : min i 300 = min (i + 1) 300 := by omega
        have HRow : Hid (wr.ownsRow w.heap.size 3 1 u3 (min (i + 1) 300) (icells (fun j => ((V j : Nat) : Int)) (min (i + 1) 300))) := Lib.hid (by have h := hrow.out; rwa [e1] at h)
        clear hrow e1
        go_wp2_with fail
        go_roundw
        case rel => exact ⟨i + 1, by omega, by go_num, HRow, hb⟩
        case measure => simp [intOf]; omega
    · obtain rfl : i = n := by omega
      obtain ⟨m, hm⟩ : ∃ m, min i 300 = m := ⟨_, rfl⟩
      have hmi : m ≤ i := by omega
      have hm3 : m ≤ 300 := by omega
      rw [hm] at hrow
      have HVs : Hid (∀ j, j < m → V j < 256) := Lib.hid fun j hj => (HO.out j (by omega)).elim fun _ h => h.2.2.2
      obtain ⟨T, ct, rfl, hit⟩ := ItsR.of_own hrow.out (fun j hj => by have := HVs.out j hj; omega)
      have hct := hit.2.1
      have hctm : ct ≤ 9223372036854775807 := by have := hit.2.2.1; unfold maxLen at this; omega
      have HT := Lib.hid hit
      obtain ⟨U, hU⟩ : ∃ U : Nat → Int, (fun j => ((V j : Nat) : Int)) = U := ⟨_, rfl⟩
      have HUs : Hid (∀ j, j < m → 0 ≤ U j ∧ U j < 256) := Lib.hid fun j hj => by
        have := HVs.out j hj
        rw [← hU]
        show 0 ≤ ((V j : Nat) : Int) ∧ ((V j : Nat) : Int) < 256
        omega
      rw [hU] at HT hit
      have H1 := Lib.hid (refArrayS_any T m ct U wr (by omega) hit.2.2.2)
      clear hit hrow hm hU HVs hlt hbs
      go_wp2_with fail
      refine H1.out.mono ?_
      rintro e w1 ⟨u1, s, rfl, hs, hown1, hb1⟩
      obtain ⟨A1, c1, rfl, hi1⟩ := ItsR.of_own hown1 (fun j hj => by have := hs.1 j hj; omega)
      have HS := Lib.hid hs
      have hB1 := hb.trans (hb1.mono hb.size)
      have HT1 := Lib.hid (HT.out.below hb1)
      have H2 := Lib.hid (HI.out.make T m ct U A1 m c1 (fun i => ((s i : Nat) : Int)) w1 (by omega) (by omega) HT1.out hi1)
      clear H1 hs hown1 hb1 hi1 HT hb
      go_wp2_with fail
      refine H2.out.mono ?_
      rintro e w2 ⟨h2, _, hb2⟩
      obtain ⟨A2, c2, rfl, hi2⟩ := h2 ⟨rfl, HS.out.perm⟩
      have hB2 := hB1.trans (hb2.mono hB1.size)
      have HT2 := Lib.hid (HT1.out.below hb2)
      have HI2 := Lib.hid hi2
      have H3 := Lib.hid (HI.out.counts T m ct U 256 w2 (by omega) (by decide) (.inl (by omega)) HT2.out)
      clear h2 H2 hb2 hi2 HT1 hB1
      go_wp2_with fail
      refine H3.out.mono ?_
      rintro e w3 ⟨h3, _, hb3⟩
      obtain ⟨A3, c3, rfl, hi3⟩ := h3 ⟨⟨by omega, by omega, by omega⟩, HUs.out⟩
      have hB3 := hB2.trans (hb3.mono hB2.size)
      have HI2' := Lib.hid (HI2.out.below hb3)
      have HI3 : Hid (ItsR w3 A3 257 c3 (fun x => ((belowI U m (x : Int) : Nat) : Int))) := Lib.hid hi3
      have H4 := Lib.hid (HI.out.counts A2 m c2 _ 256 w3 (by omega) (by decide) (.inl (by omega)) HI2'.out)
      have e257 : (256 : Int).toNat + 1 = 257 := rfl
      rw [e257]
      clear h3 H3 hb3 hi3 HI2 HT2 hB2 e257
      go_wp2_with fail
      refine H4.out.mono ?_
      rintro e w4 ⟨h4, _, hb4⟩
      obtain ⟨A4, c4, rfl, hi4⟩ := h4 ⟨⟨by omega, by omega, by omega⟩, turned_in (P := fun x => 0 ≤ x ∧ x < 256) HS.out HUs.out⟩
      have hB4 := hB3.trans (hb4.mono hB3.size)
      have HI3' := Lib.hid (HI3.out.below hb4)
      have HI4 : Hid (ItsR w4 A4 257 c4 (fun x => ((belowI (turnI U m fun i => ((s i : Nat) : Int)) m (x : Int) : Nat) : Int))) := Lib.hid hi4
      have H5 := Lib.hid (refSame8_any A3 A4 257 257 c3 c4 _ _ w4.heap.size w4.heap.size w4 (by unfold maxLen; omega) (Nat.le_refl _) (Nat.le_refl _) HI3'.out.2.2.2 HI4.out.2.2.2)
      have e257 : (256 : Int).toNat + 1 = 257 := rfl
      rw [e257]
      clear h4 H4 hb4 hi4 HI3 hB3 e257
      go_wp2_with fail
      refine H5.out.mono ?_
      rintro e w5 ⟨b, rfl, hbi, hb5⟩
      obtain rfl : b = true := hbi.2 ⟨by trivial, fun i _ => by rw [turned_same HS.out]⟩
      have hB5 := hB4.trans (hb5.mono hB4.size)
      obtain ⟨ad3, rfl, _, hc3, _⟩ := (HI3'.out.below hb5).2.2.2 256 (by omega)
      have hall : ((belowI U m ((256 : Nat) : Int) : Nat) : Int) = (m : Int) := congrArg Nat.cast (belowI_all (c := ((256 : Nat) : Int)) (fun i hi => (HUs.out i hi).2))
      replace hc3 : w5.cell? ⟨ad3.block, ad3.off + 256, none⟩ = some (.int .i64 (m : Int)) := hall ▸ hc3
      clear hbi hb5 H5 HI3' HI4 hB4 hall
      go_wp2_with fail
      go_ret
      exact ⟨rfl, hB5⟩
end Go.Proofs.Ytjloepepnjcpiaa
