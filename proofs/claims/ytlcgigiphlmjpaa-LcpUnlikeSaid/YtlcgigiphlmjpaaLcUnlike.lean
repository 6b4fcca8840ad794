/- The walk of colophonlaw10.LcpUnlike, over what package lcp answers (LcpI). -/
import Derived.Test.YtlcgigiphlmjpaaLcpI
import Derived.Test.YtlcgigiphlmjpaaSufTurn
namespace Go.Proofs.Ytlcgigiphlmjpaa
open Go.RowKit

theorem sumI_room {L : Nat → Int} (h : ∀ i, 0 ≤ L i ∧ L i ≤ 24) : ∀ i : Nat, 0 ≤ sumI L i ∧ sumI L i ≤ 24 * (i : Int) := by
  intro i
  induction i with
  | zero => exact ⟨Int.le_refl _, Int.le_refl _⟩
  | succ i ih =>
    have := h i
    show 0 ≤ sumI L i + L i ∧ sumI L i + L i ≤ _
    omega
theorem seen_step {V : Nat → Int} {m a c k : Nat} (hac : a < m) (hcm : c < m) (h : ¬ ∃ d, d < c ∧ Shares V m d a k) : ((∃ d, d < c + 1 ∧ Shares V m d a k) ↔ (k : Int) ≤ comI V m (a : Int) (c : Int)) := by
  rw [comI_in hac hcm, com_symm]
  constructor
  · rintro ⟨d, hd, hs⟩
    by_cases e : d = c
    · subst e
      have := com_le.2 hs
      omega
    · exact absurd ⟨d, by omega, hs⟩ h
  · intro hk
    exact ⟨c, by omega, com_le.1 (by omega)⟩
theorem newAt_next {V : Nat → Int} {m a k : Nat} (hk : a + (k + 1) ≤ m) (sn : Bool) (h : sn = true ↔ ∃ d, d < a ∧ Shares V m d a (k + 1)) : newAt V m (downS id a) a (k + 1) = newAt V m (downS id a) a k + (if sn = true then 0 else 1) := by
  rw [newAt_succ]
  congr 1
  split
  · rename_i e
    obtain ⟨d, hd, hs⟩ := h.1 e
    exact ind_neg fun g => g.2 d (mem_downS.2 ⟨d, hd, rfl⟩) hs
  · rename_i e
    refine ind_pos ⟨hk, fun c hc hs => e (h.2 ?_)⟩
    obtain ⟨j, hj, rfl⟩ := mem_downS.1 hc
    exact ⟨j, hj, hs⟩
set_option maxRecDepth 100000 in
set_option maxHeartbeats 3200000 in
theorem lcUnlike_walk (I : LcpI) (A : Option Addr) (n ca : Nat) (V : Nat → Nat) (w : World) (hn : n ≤ maxLen) (ho : Bys w w.heap.size A n V) :
    Calls Try.prog 6 #[.slice A n ca] w fun e w' => e = .returned (.bool true) ∧ Below w.heap.size w w' := by
  have HI := Lib.hid I
  have HO := Lib.hid ho
  have HF := Lib.hid (lfirst_any I w)
  have hnl : n ≤ 9223372036854775807 := by unfold maxLen at hn; omega
  clear I ho hn
  go_enter Try.func6, Try.ntmps6
  go_wp2_with fail
  refine HF.out.mono ?_
  rintro e w0 ⟨rfl, hb0⟩
  clear HF
  go_wp2_with fail
  go_loopw [3, 20] (fun u v wr => ∃ i : Nat, i ≤ n ∧ v = .int .i64 (i : Int) ∧ Hid (wr.ownsRow w.heap.size 3 1 u (min i 24) (icells (fun j => ((V j : Nat) : Int)) (min i 24))) ∧ Below w.heap.size w wr) (fun _ v _ => n - (intOf v).toNat)
  case atStart => exact ⟨0, Nat.zero_le _, rfl, Lib.hid (World.ownsRow_nil _ _ _ _), hb0⟩
  case round =>
    obtain ⟨i, hi, rfl, hrow, hb⟩ := hrel
    have hbs := hb.size
    by_cases hlt : i < n
    · have hlti : (i : Int) < (n : Int) := by omega
      obtain ⟨ad, rfl, _, hc, hv⟩ := (HO.out.below hb) i hlt
      by_cases h3 : i < 24
      · have d3 : decide ((i : Int) < 24) = true := decide_eq_true (by omega)
        have e1 : min i 24 = i := by omega
        have e2 : min (i + 1) 24 = i + 1 := by omega
        have HRow : Hid (wr.ownsRow w.heap.size 3 1 u3 i (icells (fun j => ((V j : Nat) : Int)) i)) := Lib.hid (by have h := hrow.out; rwa [e1] at h)
        have hi4 : i ≤ 4194304 := by omega
        have HE2 := Lib.hid e2
        obtain ⟨x, hx⟩ : ∃ x, V i = x := ⟨_, rfl⟩
        rw [hx] at hc hv
        have HX := Lib.hid hx
        have w1 : IntKind.i64.wrap (x : Int) = (x : Int) := IntWalk.i64_in _ (by omega)
        clear hrow e1 e2 hx
        go_wp2_with (at_builtin; refine step_append_int rfl (.tmp 27) (.tmp 30) rfl rfl HRow.out (x : Int) rfl hbs hi4 ?_; intro v3 w3 hown3 hb3)
        go_roundw
        case rel => exact ⟨i + 1, by omega, by go_num, Lib.hid (by
          rw [HE2.out, icells_snoc, HX.out]
          exact hown3.out), hb.trans hb3⟩
        case measure => simp [intOf]; omega
      · have d3 : decide ((i : Int) < 24) = false := decide_eq_false (by omega)
        have e1 : min i 24 = min (i + 1) 24 := by omega
        have HRow : Hid (wr.ownsRow w.heap.size 3 1 u3 (min (i + 1) 24) (icells (fun j => ((V j : Nat) : Int)) (min (i + 1) 24))) := Lib.hid (by have h := hrow.out; rwa [e1] at h)
        clear hrow e1
        go_wp2_with fail
        go_roundw
        case rel => exact ⟨i + 1, by omega, by go_num, HRow, hb⟩
        case measure => simp [intOf]; omega
    · obtain rfl : i = n := by omega
      obtain ⟨m, hm⟩ : ∃ m, min i 24 = m := ⟨_, rfl⟩
      have hmi : m ≤ i := by omega
      have hm3 : m ≤ 24 := by omega
      rw [hm] at hrow
      have HVs : Hid (∀ j, j < m → V j < 256) := Lib.hid fun j hj => (HO.out j (by omega)).elim fun _ h => h.2.2.2
      obtain ⟨T, ct, rfl, hit⟩ := ItsR.of_own hrow.out (fun j hj => by have := HVs.out j hj; omega)
      have hct := hit.2.1
      have hctm : ct ≤ 9223372036854775807 := by have := hit.2.2.1; unfold maxLen at this; omega
      have HT := Lib.hid hit
      obtain ⟨U, hU⟩ : ∃ U : Nat → Int, (fun j => ((V j : Nat) : Int)) = U := ⟨_, rfl⟩
      rw [hU] at HT hit
      have H1 := Lib.hid (refArrayS_any T m ct U wr (by omega) hit.2.2.2)
      clear hit hrow hm hU HVs hlt hbs
      go_wp2_with fail
      refine H1.out.mono ?_
      rintro e w1 ⟨u1, s, rfl, hs, hown1, hb1⟩
      obtain ⟨A1, c1, rfl, hi1⟩ := ItsR.of_own hown1 (fun j hj => by have := hs.1 j hj; omega)
      have HS := Lib.hid hs
      have hB1 := hb.trans (hb1.mono hb.size)
      have HT1 := Lib.hid (HT.out.below hb1)
      have H2 := Lib.hid (HI.out.array T m ct U A1 m c1 (fun i => ((s i : Nat) : Int)) w1 (by omega) (by omega) HT1.out hi1)
      clear H1 hs hown1 hb1 hi1 HT hb
      go_wp2_with fail
      refine H2.out.mono ?_
      rintro e w2 ⟨h2, _, hb2⟩
      obtain ⟨A2, c2, rfl, hi2⟩ := h2 ⟨rfl, HS.out.perm⟩
      have hB2 := hB1.trans (hb2.mono hB1.size)
      have HT2 := Lib.hid (HT1.out.below hb2)
      have HL2 := Lib.hid hi2
      have HUp := Lib.hid (unlike_parts (V := U) HS.out (show m < 25 by omega))
      have HRm := Lib.hid (fun i => lcpI_room (V := U) (n := m) (S := fun i => ((s i : Nat) : Int)) (i := i))
      clear h2 H2 hb2 hi2 HT1 hB1
      generalize lcpI U m (fun i => ((s i : Nat) : Int)) = L at *
      obtain ⟨P, hP⟩ : ∃ P, m * (m + 1) = P := ⟨_, rfl⟩
      have hPl : P ≤ 600 := by
        have := Nat.mul_le_mul hm3 (show m + 1 ≤ 25 by omega)
        omega
      obtain ⟨N, hN⟩ : ∃ N, P / 2 = N := ⟨_, rfl⟩
      rw [hP, hN] at HUp
      have hN3 : N ≤ 300 := by omega
      have hpm : (m : Int) * ((m : Int) + 1) = (P : Int) := by rw [← hP, Int.natCast_mul]; rfl
      have hq1 : wrap64 ((m : Int) * ((m : Int) + 1)) = (P : Int) := by rw [hpm]; unfold wrap64; omega
      have hq2 : (P : Int) / 2 = (N : Int) := by omega
      clear hP hN hpm
      go_wp2_with fail
      clear hq1 hq2
      go_loop [8, 49] (fun s8 v => ∃ (i : Nat) (z : Int), i ≤ m ∧ v = .int .i64 (i : Int) ∧ s8 = .int .i64 z ∧ -1000 ≤ z ∧ z ≤ 1000 ∧ Hid (z = (N : Int) - sumI L i)) (fun _ v => m - (intOf v).toNat)
      case atStart => exact ⟨0, (N : Int), Nat.zero_le _, rfl, rfl, by omega, by omega, Lib.hid (by show (N : Int) = (N : Int) - 0; omega)⟩
      case round =>
        obtain ⟨j, z, hj, rfl, rfl, hz1, hz2, HZ⟩ := hrel
        by_cases hjm : j < m
        · have hji : (j : Int) < (m : Int) := by omega
          obtain ⟨ad2, rfl, _, hc2, _, _⟩ := HL2.out.2.2.2 j hjm
          have hsr := sumI_room (L := L) (fun i => by have := HRm.out i; omega) (j + 1)
          have HS1 : Hid (sumI L (j + 1) = sumI L j + L j) := Lib.hid rfl
          have hl := HRm.out j
          have hz3 : -1000 ≤ z - L j ∧ z - L j ≤ 1000 := by
            have h1 := HZ.out
            have h2 := HS1.out
            omega
          obtain ⟨x, hx⟩ : ∃ x, L j = x := ⟨_, rfl⟩
          rw [hx] at hc2 HS1 hl hz3
          have hw : IntKind.i64.wrap (z - x) = z - x := IntWalk.i64_in _ (by omega)
          clear hsr hx
          go_wp2_with fail
          go_round
          case rel => exact ⟨j + 1, z - x, by omega, by go_num, rfl, by omega, by omega, Lib.hid (by rw [HS1.out, HZ.out]; omega)⟩
          case measure => simp [intOf]; omega
        · obtain rfl : j = m := by omega
          rw [HUp.out] at HZ
          clear HUp HRm HL2 HS hjm hz1 hz2
          go_wp2_with fail
          have HB2 := Lib.hid hB2
          clear hB2
          go_loopw [11, 59] (fun s11 v wr => ∃ (a q : Nat), a ≤ j ∧ v = .int .i64 (a : Int) ∧ s11 = .int .i64 (q : Int) ∧ q ≤ 30 * a ∧ Hid (q = firstsTo U j (downS id a) j) ∧ Below w2.heap.size w2 wr) (fun _ v _ => j - (intOf v).toNat)
          case atStart =>
            refine ⟨0, 0, Nat.zero_le _, rfl, rfl, Nat.le_refl _, Lib.hid ?_, Below.refl _ _⟩
            have : ∀ m, firstsTo U j [] m = 0 := by
              intro m
              induction m with
              | zero => rfl
              | succ m ih => unfold firstsTo; rw [ih]; rfl
            exact (this j).symm
          case round =>
            rename World => wa
            obtain ⟨a, q, haj, rfl, rfl, hq3, HQ, hba⟩ := hrel
            by_cases hlt : a < j
            · have hlti : (a : Int) < (j : Int) := by omega
              go_wp2_with fail
              go_loopw [11, 13] (fun s11 s13 wr => ∃ (k q : Nat), a + k ≤ j ∧ s13 = .int .i64 ((a + 1 + k : Nat) : Int) ∧ s11 = .int .i64 (q : Int) ∧ q ≤ 30 * a + k ∧ Hid (q = firstsTo U j (downS id a) j + newAt U j (downS id a) a k) ∧ Below w2.heap.size w2 wr) (fun _ s13 _ => j + 2 - (intOf s13).toNat)
              case atStart => exact ⟨0, q, by omega, by go_num, rfl, by omega, Lib.hid HQ.out, hba⟩
              case round =>
                rename World => wb
                clear HQ hq3
                obtain ⟨k, q, hak, rfl, rfl, hq3, HQ, hbb⟩ := hrel
                obtain ⟨b, hbk⟩ : ∃ b, a + 1 + k = b := ⟨_, rfl⟩
                obtain ⟨K, hK⟩ : ∃ K, k + 1 = K := ⟨_, rfl⟩
                rw [hbk]
                by_cases hbj : b ≤ j
                · have dbj : decide ((b : Int) ≤ (j : Int)) = true := decide_eq_true (by omega)
                  have hbji : (b : Int) ≤ (j : Int) := by omega
                  go_wp2_with fail
                  have hw : IntKind.i64.wrap ((b : Int) - (a : Int)) = (K : Int) := by rw [IntWalk.i64_in _ (by omega)]; omega
                  go_loopw [14, 15] (fun s14 s15 wr => ∃ (c : Nat) (sn : Bool), c ≤ a ∧ s14 = .bool sn ∧ s15 = .int .i64 (c : Int) ∧ Hid (sn = true ↔ ∃ d, d < c ∧ Shares U j d a K) ∧ Below w2.heap.size w2 wr) (fun _ s15 _ => a - (intOf s15).toNat)
                  case atStart => exact ⟨0, false, Nat.zero_le _, rfl, rfl, Lib.hid ⟨fun e => (by cases e), fun ⟨d, hd, _⟩ => absurd hd (Nat.not_lt_zero d)⟩, hbb⟩
                  case round =>
                    rename World => wc
                    clear hbb
                    obtain ⟨c, sn, hca, rfl, rfl, HSn, hbc⟩ := hrel
                    by_cases hgo : c < a ∧ sn = false
                    · obtain ⟨hc, rfl⟩ := hgo
                      have dca : decide ((c : Int) < (a : Int)) = true := decide_eq_true (by omega)
                      have hcai : (c : Int) < (a : Int) := by omega
                      have HSt := Lib.hid (seen_step (V := U) (m := j) (a := a) (c := c) (k := K) hlt (by omega) (fun g => by have := HSn.out.2 g; cases this))
                      have HC := Lib.hid (HI.out.common T j ct U (a : Int) (c : Int) wc (by omega) (wf_i64 (by omega) (by omega)) (wf_i64 (by omega) (by omega)) (HT2.out.below hbc))
                      have hro := comI_room (V := U) (n := j) (a := (a : Int)) (b := (c : Int))
                      generalize comI U j (a : Int) (c : Int) = r at HC HSt hro
                      obtain ⟨sn, hsn⟩ : ∃ sn, decide ((K : Int) ≤ r) = sn := ⟨_, rfl⟩
                      have HSn1 : Hid (sn = true ↔ ∃ d, d < c + 1 ∧ Shares U j d a K) := Lib.hid (by rw [HSt.out, ← hsn, decide_eq_true_iff])
                      clear HSn HSt
                      go_wp2_with fail
                      refine HC.out.mono ?_
                      rintro e wd ⟨rfl, hbd⟩
                      have hbD := hbc.trans (hbd.mono hbc.size)
                      clear hbd hbc HC
                      go_wp2_with fail
                      go_roundw
                      case rel => exact ⟨c + 1, sn, by omega, rfl, by go_num, HSn1, hbD⟩
                      case measure => simp [intOf]; omega
                    · have HNx : Hid (q + (if sn = true then 0 else 1) = firstsTo U j (downS id a) j + newAt U j (downS id a) a (k + 1)) := Lib.hid (by
                        rw [newAt_next (by omega) sn (by
                          rw [HSn.out, hK]
                          constructor
                          · rintro ⟨d, hd, hs⟩
                            exact ⟨d, by omega, hs⟩
                          · rintro ⟨d, hd, hs⟩
                            by_cases e : c = a
                            · exact ⟨d, by omega, hs⟩
                            · have h1 : sn = true := by
                                cases hx : sn
                                · exact absurd ⟨by omega, hx⟩ hgo
                                · rfl
                              exact HSn.out.1 h1), HQ.out, Nat.add_assoc])
                      cases sn
                      · obtain rfl : c = a := by
                          have : ¬ c < a := fun h => hgo ⟨h, rfl⟩
                          omega
                        have dcc : decide ((c : Int) < (c : Int)) = false := decide_eq_false (by omega)
                        clear hgo HSn HQ hw
                        have HBK := Lib.hid hbk
                        clear hbk
                        go_wp2_with fail
                        go_roundw
                        case rel => exact ⟨k + 1, q + 1, by have := HBK.out; omega, by have := HBK.out; subst this; go_num, by go_num, by omega, HNx, hbc⟩
                        case measure =>
                          have := HBK.out
                          simp [intOf]; omega
                      · clear hgo HSn HQ hw
                        have HBK := Lib.hid hbk
                        clear hbk
                        by_cases hca2 : c < a
                        · have dca : decide ((c : Int) < (a : Int)) = true := decide_eq_true (by omega)
                          go_wp2_with fail
                          go_roundw
                          case rel => exact ⟨k + 1, q, by have := HBK.out; omega, by have := HBK.out; subst this; go_num, rfl, by omega, HNx, hbc⟩
                          case measure =>
                            have := HBK.out
                            simp [intOf]; omega
                        · have dca : decide ((c : Int) < (a : Int)) = false := decide_eq_false (by omega)
                          go_wp2_with fail
                          go_roundw
                          case rel => exact ⟨k + 1, q, by have := HBK.out; omega, by have := HBK.out; subst this; go_num, rfl, by omega, HNx, hbc⟩
                          case measure =>
                            have := HBK.out
                            simp [intOf]; omega
                · have dbj : decide ((b : Int) ≤ (j : Int)) = false := decide_eq_false (by omega)
                  have hkj : k = j - a := by omega
                  have HN1 : Hid (q = firstsTo U j (downS id (a + 1)) j) := Lib.hid (by
                    show q = firstsTo U j (a :: downS id a) j
                    rw [firstsTo_cons, newAt_end (show j ≤ a + j by omega), ← hkj]
                    exact HQ.out)
                  clear HQ hkj
                  go_wp2_with fail
                  go_roundw
                  case rel => exact ⟨a + 1, q, by omega, by go_num, rfl, by omega, HN1, hbb⟩
                  case measure => simp [intOf]; omega
            · obtain rfl : a = j := by omega
              have hzq : z = (q : Int) := by
                have h1 := HZ.out
                have h2 := HQ.out
                omega
              subst hzq
              go_wp2_with fail
              go_ret
              exact ⟨rfl, HB2.out.trans (hba.mono HB2.out.size)⟩
end Go.Proofs.Ytlcgigiphlmjpaa
