/- The walk of colophonlaw15.FindParts, over what package find answers (FindI). The walk of colophonlaw15.FindSteps, over what package find answers (FindI). -/
import Derived.Test.YtbkdloebbbmkaaaGreatB13
import Derived.Test.YtbkdloebbbmkaaaGreatB04
namespace Go.Proofs.YtbkdloebbbmkaaaGreat
open Go.RowKit
/-- a part of a slice of ints. -/
theorem ItsR.part {w : World} {A X : Option Addr} {n c k l : Nat} {V : Nat → Int} (h : ItsR w A n c V) (hk : k + l ≤ n) (hX : (if c = k then A else Option.map (fun x => x.add k) A) = X) : ItsR w X l (c - k) (fun j => V (k + j)) := by
  obtain ⟨h1, h2, h3, h4⟩ := h
  refine ⟨fun e => ?_, by omega, by omega, fun j hj => ?_⟩
  · have hA : A = none := by
      subst hX
      split at e
      · exact e
      · rcases A with _ | ad
        · rfl
        · cases e
    have := h1 hA
    omega
  · obtain ⟨ad, e, g1, g2, g3⟩ := h4 (k + j) (by omega)
    subst e
    rw [if_neg (by omega)] at hX
    subst hX
    refine ⟨_, rfl, by rw [add_block]; exact g1, ?_, g3⟩
    rw [Addr.add_add]
    exact g2
section
variable {At : Nat → World → Value → Nat → (Nat → Int) → (Nat → Nat) → Nat → Nat → Prop}

set_option maxRecDepth 100000 in
set_option maxHeartbeats 3200000 in
theorem fdParts_walk (I : FindI At) (A : Option Addr) (n ca : Nat) (V : Nat → Nat) (x0 x1 : Int) (w : World) (hn : n ≤ maxLen) (ho : Bys w w.heap.size A n V) :
    Calls Tryz.prog 8 #[.slice A n ca, .agg #[.int .i64 x0, .int .i64 x1]] w fun e w' => e = .returned (.bool true) ∧ Below w.heap.size w w' := by
  have HI := Lib.hid I
  have hbx : Below w.heap.size w (w.alloc (.cells #[.int .i64 x0, .int .i64 x1] 23)) := (Below.refl _ _).alloc (Nat.le_refl _) _
  have HL := Lib.hid (lies_new w 23 [.int .i64 x0, .int .i64 x1])
  have HSz := Lib.hid (size_alloc w (.cells #[.int .i64 x0, .int .i64 x1] 23))
  have HO := Lib.hid ((ho.below hbx).mono_ hbx.size)
  have HF := Lib.hid (ffirst_any I (w.alloc (.cells #[.int .i64 x0, .int .i64 x1] 23)))
  have HNm := Lib.hid hn
  clear I ho hn
  go_enter Tryz.func8, Tryz.ntmps8
  go_wp2_with fail
  refine HF.out.mono ?_
  rintro e w0 ⟨rfl, hb0⟩
  have HE := Lib.hid (ended_any A n ca V w0 HNm.out ((HO.out.below hb0).mono_ hb0.size))
  have HB0 := Lib.hid (hbx.trans (hb0.mono hbx.size))
  have HL0 := Lib.hid (HL.out.below hb0 (by rw [HSz.out]; omega))
  have hz0 : w.heap.size < w0.heap.size := by have := hb0.size; have := HSz.out; omega
  clear HF hb0 HO HL hbx
  go_wp2_with fail
  refine HE.out.mono ?_
  rintro e w1 ⟨⟨AT, AS, m, ct, cs, T, s, rfl, hend⟩, hb1⟩
  have HEnd := Lib.hid hend
  have HN := Lib.hid (fmade_any HI.out hend 21 3 (by decide) (by decide) (by decide) (by decide))
  have HB1 := Lib.hid (HB0.out.trans (hb1.mono HB0.out.size))
  have HL1 := Lib.hid (HL0.out.below hb1 hz0)
  have hz1 : w.heap.size < w1.heap.size := by have := hb1.size; omega
  have hm := hend.small
  have hm0 := hend.once.1
  have hct := hend.list.2.1
  have hctl : ct ≤ 9223372036854775807 := by have := hend.list.2.2.1; unfold maxLen at this; omega
  clear HE hb1 hend HB0 HL0 hz0
  go_wp2_with fail
  refine HN.out.mono ?_
  rintro e w2 ⟨⟨p, rfl, hAt⟩, hb2⟩
  have HB2 := Lib.hid (HB1.out.trans (hb2.mono HB1.out.size))
  have HEnd2 := Lib.hid (HEnd.out.below hb2)
  have HL2 := Lib.hid (HL1.out.below hb2 hz1)
  have hc0 : w2.cell? ⟨w.heap.size, 0, none⟩ = some (.int .i64 x0) := HL2.out.cell 0
  have hc1 : w2.cell? ⟨w.heap.size, 1, none⟩ = some (.int .i64 x1) := HL2.out.cell 1
  have HA2 := Lib.hid hAt
  obtain ⟨a, ha, ham⟩ := turn_w x0 m hm0 (by omega)
  obtain ⟨b0, hb0, hb0m⟩ := turn_w x1 (m - a) (by omega) (by omega)
  have hma : IntKind.i64.wrap ((m : Int) - (a : Int)) = ((m - a : Nat) : Int) := by rw [IntWalk.i64_in _ (by omega)]; omega
  have hu1 : IntKind.u64.wrap (m : Int) = (m : Int) := by rw [IntKind.wrap_u64]; omega
  have hu2 : IntKind.u64.wrap ((m - a : Nat) : Int) = ((m - a : Nat) : Int) := by rw [IntKind.wrap_u64]; omega
  have hmi : (m : Int) ≠ 0 := by omega
  have hmai : ((m - a : Nat) : Int) ≠ 0 := by omega
  clear HN hb2 hAt HB1 HEnd HL1 hz1 HL2
  obtain ⟨d0, hAT, _⟩ := HEnd2.out.list.2.2.2 0 hm0
  subst hAT
  have HHa := Lib.hid ha
  go_wp2_with fail
  rw [HHa.out, show a + 1 + b0 - a = b0 + 1 by omega]
  clear ha hb0 hma hu1 hu2 hmai hc0 hc1
  have HPart : Hid (∀ W : World, Ended W (some d0) AS m ct cs T s → ItsR W (some (d0.add a)) (b0 + 1) (ct - a) (fun j => T (a + j))) := Lib.hid fun W h => h.list.part (by omega) (by rw [if_neg (by omega)]; rfl)
  have HPl := HI.out.places _ _ _ _ _ _ _ _ _ _ _ w2 HA2.out (HPart.out _ HEnd2.out)
  have hlen := plsF_len T m (fun j => T (a + j)) (b0 + 1) m
  have HMem : Hid (∀ z ∈ plsF T m (fun j => T (a + j)) (b0 + 1) m, ∃ k : Nat, k < m ∧ StN T m (fun j => T (a + j)) (b0 + 1) k ∧ z = (k : Int)) := Lib.hid fun z hz => by
    obtain ⟨k, h1, _, h2, h3⟩ := mem_plsF.1 hz
    exact ⟨k, h1, h2, h3⟩
  have HIn : Hid ((a : Int) ∈ plsF T m (fun j => T (a + j)) (b0 + 1) m) := Lib.hid (mem_plsF.2 ⟨a, ham, by omega, stN_part T (by omega), rfl⟩)
  have HRise := Lib.hid (plsF_rise T m (fun j => T (a + j)) (b0 + 1) m)
  obtain ⟨x, y, hxy⟩ : ∃ x y : Nat, rngF (fun i => stB T m (fun j => T (a + j)) (b0 + 1) (s i)) m = (x, y) := ⟨_, _, rfl⟩
  have hcnt := rngF_places (T := T) (n := m) (P := fun j => T (a + j)) (m := b0 + 1) HEnd2.out.sa (Nat.succ_pos b0)
  have hle := rngF_le (fun i => stB T m (fun j => T (a + j)) (b0 + 1) (s i)) m
  rw [hxy] at hcnt hle
  have HXY := Lib.hid hxy
  have hcnt : y - x = (plsF T m (fun j => T (a + j)) (b0 + 1) m).length := hcnt
  have hle : x ≤ y ∧ y ≤ m := hle
  obtain ⟨L, hL⟩ : ∃ L, plsF T m (fun j => T (a + j)) (b0 + 1) m = L := ⟨_, rfl⟩
  rw [hL] at HPl hlen HMem HIn HRise hcnt
  have HPl2 := Lib.hid HPl
  clear hL hxy HPl
  refine HPl2.out.mono ?_
  rintro e w3 ⟨⟨AL, cl, rfl, hil⟩, hb3⟩
  have HB3 := Lib.hid (HB2.out.trans (hb3.mono HB2.out.size))
  have HEnd3 := Lib.hid (HEnd2.out.below hb3)
  have HA3 := Lib.hid (HI.out.keep HA2.out hb3)
  have HIl := Lib.hid hil
  have hcl : cl ≤ 9223372036854775807 := by have := hil.2.2.1; unfold maxLen at this; omega
  have hlcl := hil.2.1
  have HR := HI.out.range_ _ _ _ _ _ _ _ _ _ _ _ w3 HA3.out (HPart.out _ HEnd3.out)
  rw [HXY.out] at HR
  have HR2 := Lib.hid HR
  clear HR HPl2 hil hb3 HB2 HEnd2 HA2
  go_wp2_with fail
  rw [show a + 1 + b0 - a = b0 + 1 by omega]
  refine HR2.out.mono ?_
  rintro e w4 ⟨rfl, hb4⟩
  have HB4 := Lib.hid (HB3.out.trans (hb4.mono HB3.out.size))
  have HEnd4 := Lib.hid (HEnd3.out.below hb4)
  have HIl4 := Lib.hid (HIl.out.below hb4)
  clear HR2 hb4 HB3 HEnd3 HA3 HIl HXY
  go_wp2_with fail
  go_loopw [14, 68] (fun u v wr => ∃ (i : Nat) (r : Bool), i ≤ L.length ∧ u = .bool r ∧ v = .int .i64 (i : Int) ∧ Hid (r = true ↔ (a : Int) ∈ L.take i) ∧ Hid (Ended wr (some d0) AS m ct cs T s) ∧ Hid (ItsR wr AL L.length cl (lstI L)) ∧ Hid (Below w.heap.size w wr)) (fun _ v _ => L.length - (intOf v).toNat)
  case atStart => exact ⟨0, false, Nat.zero_le _, rfl, rfl, Lib.hid (by simp), HEnd4, HIl4, HB4⟩
  case round =>
    clear HEnd4 HIl4 HB4
    obtain ⟨i, r, hi, rfl, rfl, hr, hend, hil, hb⟩ := hrel
    by_cases hlt : i < L.length
    · have hlti : (i : Int) < (L.length : Int) := by omega
      obtain ⟨kp, hkm, hst, hzk⟩ := HMem.out L[i] (List.getElem_mem hlt)
      have hli : lstI L i = (kp : Int) := by
        unfold lstI
        rw [List.getD_eq_getElem?_getD, List.getElem?_eq_getElem hlt, ← hzk]
        rfl
      have hmem : (a : Int) ∈ L.take (i + 1) ↔ (a : Int) ∈ L.take i ∨ (a : Int) = (kp : Int) := by
        rw [List.take_succ_eq_append_getElem hlt, List.mem_append, List.mem_singleton, hzk]
      obtain ⟨dl, hAL, _, cx, _⟩ := hil.out.2.2.2 i hlt
      subst hAL
      rw [hli] at cx
      have HSt := refStands_is (some d0) (some (d0.add a)) m ct (b0 + 1) (ct - a) T (fun j => T (a + j)) kp wr (by omega) (by unfold maxLen; omega) (by omega) hend.out.list.2.2.2 (HPart.out _ hend.out).2.2.2
      rw [stB_iff.2 hst] at HSt
      have HSt2 := Lib.hid HSt
      clear HSt
      have hlow : Hid (∀ q, i = q + 1 → ∃ kq : Nat, kq < kp ∧ wr.cell? (dl.add q) = some (.int .i64 (kq : Int))) := Lib.hid fun q hq => by
        obtain ⟨kq, _, _, hzq⟩ := HMem.out (L[q]'(by omega)) (List.getElem_mem _)
        have hlq : lstI L q = (kq : Int) := by
          unfold lstI
          rw [List.getD_eq_getElem?_getD, List.getElem?_eq_getElem (by omega), ← hzq]
          rfl
        have hr2 := List.pairwise_iff_getElem.1 HRise.out q i (by omega) hlt (by omega)
        rw [hzk, hzq] at hr2
        obtain ⟨dl', e', _, cq, _⟩ := hil.out.2.2.2 q (by omega)
        cases e'
        rw [hlq] at cq
        exact ⟨kq, by omega, cq⟩
      clear hli hst hzk hcnt
      cases r with
      | true =>
        have HRn : Hid ((a : Int) ∈ L.take (i + 1)) := Lib.hid (hmem.2 (.inl (hr.out.1 rfl)))
        rcases Nat.eq_zero_or_pos i with h0 | h0
        · have g0 : decide ((0 : Int) < (i : Int)) = false := decide_eq_false (by omega)
          have g00 : ¬ 0 < i := by omega
          have g01 : decide (0 < i) = false := decide_eq_false g00
          clear h0
          clear hr hmem hlow
          go_wp2_with fail
          rw [show a + 1 + b0 - a = b0 + 1 by omega]
          refine HSt2.out.mono ?_
          rintro e w5 ⟨rfl, hb5⟩
          have HB5 := Lib.hid (hb.out.trans (hb5.mono hb.out.size))
          have HEnd5 := Lib.hid (hend.out.below hb5)
          have HIl5 := Lib.hid (hil.out.below hb5)
          clear HSt2 hb5 hb hend hil
          go_wp2_with fail
          go_roundw
          case rel => exact ⟨i + 1, true, by omega, rfl, by go_num, Lib.hid ⟨fun _ => HRn.out, fun _ => rfl⟩, HEnd5, HIl5, HB5⟩
          case measure => simp [intOf]; omega
        · obtain ⟨q, hq⟩ : ∃ q, i = q + 1 := ⟨i - 1, by omega⟩
          obtain ⟨kq, hkq, cq⟩ := hlow.out q hq
          have g0 : decide ((0 : Int) < (i : Int)) = true := decide_eq_true (by omega)
          have g1 : decide ((kp : Int) ≤ (kq : Int)) = false := decide_eq_false (by omega)
          have g11 : ¬ kp ≤ kq := by omega
          have g12 : decide (kp ≤ kq) = false := decide_eq_false g11
          have g02 : 0 < i := by omega
          have g03 : decide (0 < i) = true := decide_eq_true g02
          have hsub : IntKind.i64.wrap ((i : Int) - 1) = (q : Int) := by rw [IntWalk.i64_in _ (by omega)]; omega
          have hqk : (q : Int) < (L.length : Int) := by omega
          clear hq h0
          clear hr hmem hlow
          go_wp2_with fail
          rw [show a + 1 + b0 - a = b0 + 1 by omega]
          refine HSt2.out.mono ?_
          rintro e w5 ⟨rfl, hb5⟩
          have HB5 := Lib.hid (hb.out.trans (hb5.mono hb.out.size))
          have HEnd5 := Lib.hid (hend.out.below hb5)
          have HIl5 := Lib.hid (hil.out.below hb5)
          clear HSt2 hb5 hb hend hil
          go_wp2_with fail
          go_roundw
          case rel => exact ⟨i + 1, true, by omega, rfl, by go_num, Lib.hid ⟨fun _ => HRn.out, fun _ => rfl⟩, HEnd5, HIl5, HB5⟩
          case measure => simp [intOf]; omega
      | false =>
        by_cases hka : kp = a
        · subst hka
          have gk : ((kp : Int) == (kp : Int)) = true := by simp
          have HRn : Hid ((kp : Int) ∈ L.take (i + 1)) := Lib.hid (hmem.2 (.inr rfl))
          rcases Nat.eq_zero_or_pos i with h0 | h0
          · have g0 : decide ((0 : Int) < (i : Int)) = false := decide_eq_false (by omega)
            have g00 : ¬ 0 < i := by omega
            have g01 : decide (0 < i) = false := decide_eq_false g00
            clear h0
            clear hr hmem hlow
            go_wp2_with fail
            rw [show kp + 1 + b0 - kp = b0 + 1 by omega]
            refine HSt2.out.mono ?_
            rintro e w5 ⟨rfl, hb5⟩
            have HB5 := Lib.hid (hb.out.trans (hb5.mono hb.out.size))
            have HEnd5 := Lib.hid (hend.out.below hb5)
            have HIl5 := Lib.hid (hil.out.below hb5)
            clear HSt2 hb5 hb hend hil
            go_wp2_with fail
            go_roundw
            case rel => exact ⟨i + 1, true, by omega, rfl, by go_num, Lib.hid ⟨fun _ => HRn.out, fun _ => rfl⟩, HEnd5, HIl5, HB5⟩
            case measure => simp [intOf]; omega
          · obtain ⟨q, hq⟩ : ∃ q, i = q + 1 := ⟨i - 1, by omega⟩
            obtain ⟨kq, hkq, cq⟩ := hlow.out q hq
            have g0 : decide ((0 : Int) < (i : Int)) = true := decide_eq_true (by omega)
            have g1 : decide ((kp : Int) ≤ (kq : Int)) = false := decide_eq_false (by omega)
            have g11 : ¬ kp ≤ kq := by omega
            have g12 : decide (kp ≤ kq) = false := decide_eq_false g11
            have g02 : 0 < i := by omega
            have g03 : decide (0 < i) = true := decide_eq_true g02
            have hsub : IntKind.i64.wrap ((i : Int) - 1) = (q : Int) := by rw [IntWalk.i64_in _ (by omega)]; omega
            have hqk : (q : Int) < (L.length : Int) := by omega
            clear hq h0
            clear hr hmem hlow
            go_wp2_with fail
            rw [show kp + 1 + b0 - kp = b0 + 1 by omega]
            refine HSt2.out.mono ?_
            rintro e w5 ⟨rfl, hb5⟩
            have HB5 := Lib.hid (hb.out.trans (hb5.mono hb.out.size))
            have HEnd5 := Lib.hid (hend.out.below hb5)
            have HIl5 := Lib.hid (hil.out.below hb5)
            clear HSt2 hb5 hb hend hil
            go_wp2_with fail
            go_roundw
            case rel => exact ⟨i + 1, true, by omega, rfl, by go_num, Lib.hid ⟨fun _ => HRn.out, fun _ => rfl⟩, HEnd5, HIl5, HB5⟩
            case measure => simp [intOf]; omega
        · have gk : ((kp : Int) == (a : Int)) = false := by rw [beq_eq_false_iff_ne]; omega
          have HRn : Hid (false = true ↔ (a : Int) ∈ L.take (i + 1)) := Lib.hid ⟨fun h => (by cases h), fun h => (hmem.1 h).elim (fun h => absurd (hr.out.2 h) (by decide)) (fun h => absurd h (by omega))⟩
          rcases Nat.eq_zero_or_pos i with h0 | h0
          · have g0 : decide ((0 : Int) < (i : Int)) = false := decide_eq_false (by omega)
            have g00 : ¬ 0 < i := by omega
            have g01 : decide (0 < i) = false := decide_eq_false g00
            clear h0
            clear hr hmem hlow
            go_wp2_with fail
            rw [show a + 1 + b0 - a = b0 + 1 by omega]
            refine HSt2.out.mono ?_
            rintro e w5 ⟨rfl, hb5⟩
            have HB5 := Lib.hid (hb.out.trans (hb5.mono hb.out.size))
            have HEnd5 := Lib.hid (hend.out.below hb5)
            have HIl5 := Lib.hid (hil.out.below hb5)
            clear HSt2 hb5 hb hend hil
            go_wp2_with fail
            go_roundw
            case rel => exact ⟨i + 1, false, by omega, rfl, by go_num, HRn, HEnd5, HIl5, HB5⟩
            case measure => simp [intOf]; omega
          · obtain ⟨q, hq⟩ : ∃ q, i = q + 1 := ⟨i - 1, by omega⟩
            obtain ⟨kq, hkq, cq⟩ := hlow.out q hq
            have g0 : decide ((0 : Int) < (i : Int)) = true := decide_eq_true (by omega)
            have g1 : decide ((kp : Int) ≤ (kq : Int)) = false := decide_eq_false (by omega)
            have g11 : ¬ kp ≤ kq := by omega
            have g12 : decide (kp ≤ kq) = false := decide_eq_false g11
            have g02 : 0 < i := by omega
            have g03 : decide (0 < i) = true := decide_eq_true g02
            have hsub : IntKind.i64.wrap ((i : Int) - 1) = (q : Int) := by rw [IntWalk.i64_in _ (by omega)]; omega
            have hqk : (q : Int) < (L.length : Int) := by omega
            clear hq h0
            clear hr hmem hlow
            go_wp2_with fail
            rw [show a + 1 + b0 - a = b0 + 1 by omega]
            refine HSt2.out.mono ?_
            rintro e w5 ⟨rfl, hb5⟩
            have HB5 := Lib.hid (hb.out.trans (hb5.mono hb.out.size))
            have HEnd5 := Lib.hid (hend.out.below hb5)
            have HIl5 := Lib.hid (hil.out.below hb5)
            clear HSt2 hb5 hb hend hil
            go_wp2_with fail
            go_roundw
            case rel => exact ⟨i + 1, false, by omega, rfl, by go_num, HRn, HEnd5, HIl5, HB5⟩
            case measure => simp [intOf]; omega
    · have hie : i = L.length := by omega
      obtain rfl : r = true := hr.out.2 (by rw [hie, List.take_length]; exact HIn.out)
      have hge : ¬ (i : Int) < (L.length : Int) := by omega
      obtain ⟨k, hk⟩ : ∃ k, L.length = k := ⟨_, rfl⟩
      obtain rfl : y = x + k := by omega
      rw [hk] at hge hie hil hlcl hlen hcnt
      have hyx : IntKind.i64.wrap (((x + k : Nat) : Int) - (x : Int)) = (k : Int) := by rw [IntWalk.i64_in _ (by omega)]; omega
      have hyx2 : ((x + k : Nat) : Int) - (x : Int) = (k : Int) := by omega
      have hyx3 : (x : Int) + (k : Int) - (x : Int) = (k : Int) := by omega
      have hkk : ((k : Int) == (k : Int)) = true := by simp
      subst hie
      try rw [hk]
      clear hcnt hr hend
      go_wp2_with fail
      go_ret
      exact ⟨rfl, hb.out⟩
end
end Go.Proofs.YtbkdloebbbmkaaaGreat

namespace Go.Proofs.YtbkdloebbbmkaaaGreat
open Go.RowKit
section
variable {At : Nat → World → Value → Nat → (Nat → Int) → (Nat → Nat) → Nat → Nat → Prop}

set_option maxRecDepth 100000 in
set_option maxHeartbeats 3200000 in
theorem fdSteps_walk (I : FindI At) (A : Option Addr) (n c : Nat) (V : Nat → Nat) (A' : Option Addr) (np cp : Nat) (P : Nat → Int) (x0 x1 : Int) (w : World) (hn : n ≤ maxLen) (ho : Bys w w.heap.size A n V) (ho' : ItsR w A' np cp P) :
    Calls Tryz.prog 9 #[.slice A n c, .slice A' np cp, .agg #[.int .i64 x0, .int .i64 x1]] w fun e w' => e = .returned (.bool true) ∧ Below w.heap.size w w' := by
  have HI := Lib.hid I
  have hbx : Below w.heap.size w (w.alloc (.cells #[.int .i64 x0, .int .i64 x1] 23)) := (Below.refl _ _).alloc (Nat.le_refl _) _
  have HL := Lib.hid (lies_new w 23 [.int .i64 x0, .int .i64 x1])
  have hsz := size_alloc w (.cells #[.int .i64 x0, .int .i64 x1] 23)
  have HO := Lib.hid ((ho.below hbx).mono_ hbx.size)
  have HP := Lib.hid (ho'.below hbx)
  have HF := Lib.hid (ffirst_any I (w.alloc (.cells #[.int .i64 x0, .int .i64 x1] 23)))
  have HNm := Lib.hid hn
  have hnp := ho'.2.1
  have hcp : cp ≤ 9223372036854775807 := by have := ho'.2.2.1; unfold maxLen at this; omega
  obtain ⟨k0, hk0, hk0l⟩ := turn_w x0 50 (by decide) (by decide)
  have hk03 : wrap64 ((IntKind.u64.wrap x0).tmod 50) = (k0 : Int) := hk0
  have hk04 : IntKind.i64.wrap (1 + (k0 : Int)) = 1 + (k0 : Int) := IntWalk.i64_in _ (by omega)
  obtain ⟨k1, hk1, hk1l⟩ := turn_w x1 50 (by decide) (by decide)
  have hk13 : wrap64 ((IntKind.u64.wrap x1).tmod 50) = (k1 : Int) := hk1
  have hk14 : IntKind.i64.wrap (1 + (k1 : Int)) = 1 + (k1 : Int) := IntWalk.i64_in _ (by omega)
  have HK0 := Lib.hid hk03
  have HK1 := Lib.hid hk13
  have HSz := Lib.hid hsz
  clear I ho ho' hn hk0 hk1 hsz
  by_cases hbig : 40 < np
  · have d1 : decide ((40 : Int) < (np : Int)) = true := decide_eq_true (by omega)
    go_enter Tryz.func9, Tryz.ntmps9
    go_wp2_with fail
    refine HF.out.mono ?_
    rintro e w0 ⟨rfl, hb0⟩
    have HB0 := Lib.hid (hbx.trans (hb0.mono hbx.size))
    clear HF hb0 HO
    go_wp2_with fail
    go_ret
    exact ⟨rfl, HB0.out⟩
  · have d1 : decide ((40 : Int) < (np : Int)) = false := decide_eq_false (by omega)
    go_enter Tryz.func9, Tryz.ntmps9
    go_wp2_with fail
    refine HF.out.mono ?_
    rintro e w0 ⟨rfl, hb0⟩
    have HE := Lib.hid (ended_any A n c V w0 HNm.out ((HO.out.below hb0).mono_ hb0.size))
    have HB0 := Lib.hid (hbx.trans (hb0.mono hbx.size))
    have HL0 := Lib.hid (HL.out.below hb0 (by rw [HSz.out]; omega))
    have HP0 := Lib.hid (HP.out.below hb0)
    have hz0 : w.heap.size < w0.heap.size := by have := hb0.size; have := HSz.out; omega
    clear HF hb0 HO HP HL hbx
    go_wp2_with fail
    refine HE.out.mono ?_
    rintro e w1 ⟨⟨AT, AS, m, ct, cs, T, s, rfl, hend⟩, hb1⟩
    have HEnd := Lib.hid hend
    have HN := Lib.hid (fmade_any HI.out hend 21 (1 + (k0 : Int)) (by decide) (by decide) (by omega) (by omega))
    have HB1 := Lib.hid (HB0.out.trans (hb1.mono HB0.out.size))
    have HL1 := Lib.hid (HL0.out.below hb1 hz0)
    have HP1 := Lib.hid (HP0.out.below hb1)
    have hz1 : w.heap.size < w1.heap.size := by have := hb1.size; omega
    have hm := hend.small
    have hc0 : w1.cell? ⟨w.heap.size, 0, none⟩ = some (.int .i64 x0) := HL1.out.cell 0
    clear HE hb1 hend HB0 HL0 HP0 hz0
    go_wp2_with fail
    refine HN.out.mono ?_
    rintro e w2 ⟨⟨p, rfl, hAt⟩, hb2⟩
    have HB2 := Lib.hid (HB1.out.trans (hb2.mono HB1.out.size))
    have HL2 := Lib.hid (HL1.out.below hb2 hz1)
    have HP2 := Lib.hid (HP1.out.below hb2)
    have HEnd2 := Lib.hid (HEnd.out.below hb2)
    have HA2 := Lib.hid hAt
    have hz2 : w.heap.size < w2.heap.size := by have := hb2.size; omega
    have hc1 : w2.cell? ⟨w.heap.size, 1, none⟩ = some (.int .i64 x1) := HL2.out.cell 1
    have HM := Lib.hid (fmade_any HI.out HEnd2.out 300 (1 + (k1 : Int)) (by decide) (by decide) (by omega) (by omega))
    clear HN hb2 hAt HB1 HL1 HP1 HEnd hz1 hc0 HL2
    go_wp2_with fail
    refine HM.out.mono ?_
    rintro e w3 ⟨⟨q, rfl, hAt⟩, hb3⟩
    have HB3 := Lib.hid (HB2.out.trans (hb3.mono HB2.out.size))
    have HP3 := Lib.hid (HP2.out.below hb3)
    have HA3 := Lib.hid (HI.out.keep HA2.out hb3)
    have HC3 := Lib.hid hAt
    clear HM hb3 hAt HB2 HP2 HA2 HEnd2 hz2 hc1
    obtain ⟨x, y, hxy⟩ : ∃ x y : Nat, rngF (fun i => stB T m P np (s i)) m = (x, y) := ⟨_, _, rfl⟩
    have HXY := Lib.hid hxy
    clear hxy
    have HR := HI.out.range_ _ _ _ _ _ _ _ _ _ _ _ w3 HA3.out HP3.out
    rw [HXY.out] at HR
    have HR := Lib.hid HR
    go_wp2_with fail
    refine HR.out.mono ?_
    rintro e w4 ⟨rfl, hb4⟩
    have HB4 := Lib.hid (HB3.out.trans (hb4.mono HB3.out.size))
    have HP4 := Lib.hid (HP3.out.below hb4)
    have HA4 := Lib.hid (HI.out.keep HA3.out hb4)
    have HC4 := Lib.hid (HI.out.keep HC3.out hb4)
    have HS := HI.out.range_ _ _ _ _ _ _ _ _ _ _ _ w4 HC4.out HP4.out
    rw [HXY.out] at HS
    have HS := Lib.hid HS
    clear HR hb4 HB3 HP3 HA3 HC3
    go_wp2_with fail
    refine HS.out.mono ?_
    rintro e w5 ⟨rfl, hb5⟩
    have HB5 := Lib.hid (HB4.out.trans (hb5.mono HB4.out.size))
    have HP5 := Lib.hid (HP4.out.below hb5)
    have HA5 := Lib.hid (HI.out.keep HA4.out hb5)
    have HC5 := Lib.hid (HI.out.keep HC4.out hb5)
    have HQ := Lib.hid (HI.out.places _ _ _ _ _ _ _ _ _ _ _ w5 HA5.out HP5.out)
    clear HS hb5 HB4 HP4 HA4 HC4
    go_wp2_with fail
    refine HQ.out.mono ?_
    rintro e w6 ⟨⟨A6, c6, rfl, hi6⟩, hb6⟩
    have HB6 := Lib.hid (HB5.out.trans (hb6.mono HB5.out.size))
    have HP6 := Lib.hid (HP5.out.below hb6)
    have HC6 := Lib.hid (HI.out.keep HC5.out hb6)
    have HI6 := Lib.hid hi6
    have HQ2 := Lib.hid (HI.out.places _ _ _ _ _ _ _ _ _ _ _ w6 HC6.out HP6.out)
    clear HQ hi6 hb6 HB5 HP5 HA5 HC5
    go_wp2_with fail
    refine HQ2.out.mono ?_
    rintro e w7 ⟨⟨A7, c7, rfl, hi7⟩, hb7⟩
    have HB7 := Lib.hid (HB6.out.trans (hb7.mono HB6.out.size))
    have HI7 := Lib.hid (HI6.out.below hb7)
    have HSm := Lib.hid (refSame8_any A6 A7 _ _ c6 c7 _ _ _ _ w7 (by have := hi7.2.1; have := hi7.2.2.1; omega) (Nat.le_refl _) (Nat.le_refl _) HI7.out.2.2.2 hi7.2.2.2)
    clear HQ2 hi7 hb7 HB6 HP6 HC6 HI6 HI7
    go_wp2_with fail
    refine HSm.out.mono ?_
    rintro e w8 ⟨b, rfl, hbi, hb8⟩
    obtain rfl : b = true := hbi.2 ⟨by trivial, fun _ _ => by trivial⟩
    have HB8 := Lib.hid (HB7.out.trans (hb8.mono HB7.out.size))
    clear HSm hbi hb8 HB7
    go_wp2_with fail
    go_ret
    exact ⟨rfl, HB8.out⟩
end
end Go.Proofs.YtbkdloebbbmkaaaGreat
