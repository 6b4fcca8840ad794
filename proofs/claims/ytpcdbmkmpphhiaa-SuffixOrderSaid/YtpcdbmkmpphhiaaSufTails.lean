/- The walk of colophonlaw09.SuffixTails, over what package suffix answers (SufI). -/
import Derived.Test.YtpcdbmkmpphhiaaSufSorts
namespace Go.Proofs.Ytpcdbmkmpphhiaa
open Go.RowKit

theorem turn_k (a : Int) (t : Nat) (ht : 0 < t) (hs : t ≤ 4194304) : ∃ j : Nat, wrap64 ((IntKind.u64.wrap a).tmod (t : Int)) = (j : Int) ∧ j < t := by
  have hw : 0 ≤ IntKind.u64.wrap a := by rw [IntKind.wrap_u64]; omega
  generalize IntKind.u64.wrap a = x at hw
  have e1 : x.tmod (t : Int) = x % (t : Int) := Int.tmod_eq_emod_of_nonneg hw
  have h1 := Int.emod_nonneg x (show (t : Int) ≠ 0 by omega)
  have h2 := Int.emod_lt_of_pos x (show (0 : Int) < (t : Int) by omega)
  rw [e1]
  refine ⟨(x % (t : Int)).toNat, ?_, by omega⟩
  unfold wrap64
  omega
/-- a tail of a slice of ints. -/
theorem ItsR.tail {w : World} {A X : Option Addr} {n c k : Nat} {V : Nat → Int} (h : ItsR w A n c V) (hk : k ≤ n) (hX : (if c = k then A else Option.map (fun x => x.add k) A) = X) : ItsR w X (n - k) (c - k) (fun j => V (k + j)) := by
  obtain ⟨h1, h2, h3, h4⟩ := h
  refine ⟨fun e => ?_, by omega, by omega, fun j hj => ?_⟩
  · have hA : A = none := by
      subst hX
      split at e
      · exact e
      · rcases A with _ | ad
        · rfl
        · cases e
    have := h1 hA
    omega
  · obtain ⟨ad, e, g1, g2, g3⟩ := h4 (k + j) (by omega)
    subst e
    rw [if_neg (by omega)] at hX
    subst hX
    refine ⟨ad.add k, rfl, by rw [add_block]; exact g1, ?_, g3⟩
    rw [Addr.add_add]
    exact g2

set_option maxRecDepth 100000 in
set_option maxHeartbeats 3200000 in
theorem sufTails_walk (I : SufI) (A : Option Addr) (n ca : Nat) (V : Nat → Nat) (fr : Int) (w : World) (hn : n ≤ maxLen) (ho : Bys w w.heap.size A n V) :
    Calls Try.prog 8 #[.slice A n ca, .int .i64 fr] w fun e w' => e = .returned (.bool true) ∧ Below w.heap.size w w' := by
  have HI := Lib.hid I
  have HO := Lib.hid ho
  have HF := Lib.hid (sfirst_any I w)
  have hnl : n ≤ 9223372036854775807 := by unfold maxLen at hn; omega
  clear I ho hn
  go_enter Try.func8, Try.ntmps8
  go_wp2_with fail
  refine HF.out.mono ?_
  rintro e w0 ⟨rfl, hb0⟩
  clear HF
  go_wp2_with fail
  go_loopw [5, 20] (fun u v wr => ∃ i : Nat, i ≤ n ∧ v = .int .i64 (i : Int) ∧ Hid (wr.ownsRow w.heap.size 3 1 u (min i 300) (icells (fun j => ((V j : Nat) : Int)) (min i 300))) ∧ Below w.heap.size w wr) (fun _ v _ => n - (intOf v).toNat)
  case atStart => exact ⟨0, Nat.zero_le _, rfl, Lib.hid (World.ownsRow_nil _ _ _ _), hb0⟩
  case round =>
    obtain ⟨i, hi, rfl, hrow, hb⟩ := hrel
    have hbs := hb.size
    by_cases hlt : i < n
    · have hlti : (i : Int) < (n : Int) := by omega
      obtain ⟨ad, rfl, _, hc, hv⟩ := (HO.out.below hb) i hlt
      by_cases h3 : i < 300
      · have d3 : decide ((i : Int) < 300) = true := decide_eq_true (by omega)
        have e1 : min i 300 = i := by omega
        have e2 : min (i + 1) 300 = i + 1 := by omega
        have HRow : Hid (wr.ownsRow w.heap.size 3 1 u5 i (icells (fun j => ((V j : Nat) : Int)) i)) := Lib.hid (by have h := hrow.out; rwa [e1] at h)
        have hi4 : i ≤ 4194304 := by omega
        have HE2 := Lib.hid e2
        obtain ⟨x, hx⟩ : ∃ x, V i = x := ⟨_, rfl⟩
        rw [hx] at hc hv
        have HX := Lib.hid hx
        have w1 : IntKind.i64.wrap (x : Int) = (x : Int) := IntWalk.i64_in _ (by omega)
        clear hrow e1 e2 hx
        go_wp2_with (at_builtin; refine step_append_int rfl (.tmp 27) (.tmp 30) rfl rfl HRow.out (x : Int) rfl hbs hi4 ?_; intro v3 w3 hown3 hb3)
        go_roundw
        case rel => exact ⟨i + 1, by omega, by go_num, Lib.hid (by
          rw [HE2.out, icells_snoc, HX.out]
          exact hown3.out), hb.trans hb3⟩
        case measure => simp [intOf]; omega
      · have d3 : decide ((i : Int) < 300) = false := decide_eq_false (by omega)
        have e1 : min i 300 = min (i + 1) 300 := by omega
        have HRow : Hid (wr.ownsRow w.heap.size 3 1 u5 (min (i + 1) 300) (icells (fun j => ((V j : Nat) : Int)) (min (i + 1) 300))) := Lib.hid (by have h := hrow.out; rwa [e1] at h)
        clear hrow e1
        go_wp2_with fail
        go_roundw
        case rel => exact ⟨i + 1, by omega, by go_num, HRow, hb⟩
        case measure => simp [intOf]; omega
    · obtain rfl : i = n := by omega
      obtain ⟨m, hm⟩ : ∃ m, min i 300 = m := ⟨_, rfl⟩
      have hmi : m ≤ i := by omega
      have hm3 : m ≤ 300 := by omega
      rw [hm] at hrow
      have HVs : Hid (∀ j, j < m → V j < 256) := Lib.hid fun j hj => (HO.out j (by omega)).elim fun _ h => h.2.2.2
      obtain ⟨T, ct, rfl, hit⟩ := ItsR.of_own hrow.out (fun j hj => by have := HVs.out j hj; omega)
      have hct := hit.2.1
      have hctm : ct ≤ 9223372036854775807 := by have := hit.2.2.1; unfold maxLen at this; omega
      obtain ⟨k, hk, hkm⟩ := turn_k fr (m + 1) (by omega) (by omega)
      have hk3 : wrap64 ((IntKind.u64.wrap fr).tmod ((m : Int) + 1)) = (k : Int) := hk
      have hkm1 : k ≤ m := by omega
      have hkc : k ≤ ct := by omega
      have HR1 : Hid (RightS (fun j => ((V j : Nat) : Int)) m 256) := Lib.hid ⟨⟨by omega, by omega, by omega⟩, fun j hj => by have := HVs.out j hj; show 0 ≤ ((V j : Nat) : Int) ∧ ((V j : Nat) : Int) < 256; omega⟩
      have HR2 : Hid (RightS (fun j => ((V (k + j) : Nat) : Int)) (m - k) 256) := Lib.hid ⟨⟨by omega, by omega, by omega⟩, fun j hj => by have := HVs.out (k + j) (by omega); show 0 ≤ ((V (k + j) : Nat) : Int) ∧ ((V (k + j) : Nat) : Int) < 256; omega⟩
      have HT := Lib.hid hit
      have H1 := Lib.hid (HI.out.array T m ct _ 256 wr (by unfold maxLen; omega) (by omega) (by decide) hit.1 hit.2.1 hit.2.2.1 hit.2.2.2)
      have HK3 := Lib.hid hk3
      clear hit hrow hk hkm hlt hm
      go_wp2_with fail
      rw [HK3.out]
      refine H1.out.mono ?_
      rintro e w1 ⟨h1, _, hb1⟩
      obtain ⟨X, cx, s, rfl, hs, _, hix⟩ := h1 HR1.out
      have hB1 := hb.trans (hb1.mono hbs)
      have HS := Lib.hid hs
      have HX := Lib.hid hix
      obtain ⟨Y0, hY0⟩ : ∃ X2, (if ct = k then T else Option.map (fun x => x.add k) T) = X2 := ⟨_, rfl⟩
      have htl := (HT.out.below hb1).tail hkm1 hY0
      have H2 := Lib.hid (HI.out.array Y0 (m - k) (ct - k) _ 256 w1 (by unfold maxLen; omega) (by omega) (by decide) htl.1 htl.2.1 htl.2.2.1 htl.2.2.2)
      clear h1 hs hix hb1 htl H1 HT HK3 hk3
      go_wp2_with fail
      with_reducible refine H2.out.mono ?_
      rintro e w2 ⟨h2, _, hb2⟩
      obtain ⟨Y, cy, y, rfl, hy, _, hiy⟩ := h2 HR2.out
      have hB2 := hB1.trans (hb2.mono hB1.size)
      have HX2 := Lib.hid (HX.out.below hb2)
      have HY := Lib.hid hiy
      have HAt := Lib.hid (tail_at (s := s) (y := y) hkm1 HS.out (by
        refine hy.mapped (fun i j hi hj => ?_)
        exact Iff.rfl))
      have HAll := Lib.hid (fromK_all (s := s) hkm1 HS.out ⟨y, hy⟩)
      clear h2 hb2 hiy hy H2 HX hY0
      go_wp2_with fail
      go_loop [13, 55] (fun s13 v => ∃ q : Nat, q ≤ m ∧ v = .int .i64 (q : Int) ∧ s13 = .int .i64 ((fromK s k q : Nat) : Int)) (fun _ v => m - (intOf v).toNat)
      case atStart => exact ⟨0, Nat.zero_le _, rfl, rfl⟩
      case round =>
        obtain ⟨q, hq, rfl, rfl⟩ := hrel
        have HSc := Lib.hid (fromK_succ s k q)
        by_cases hqm : q < m
        · have hqi : (q : Int) < (m : Int) := by omega
          obtain ⟨adx, rfl, _, hcx0, _⟩ := HX2.out.2.2.2 q hqm
          have hsq := HS.out.1 q hqm
          by_cases hk5 : k ≤ s q
          · obtain ⟨h6, h7⟩ := HAt.out q hqm hk5
            have hc7 := HSc.out
            rw [if_pos hk5] at hc7
            have HC7 := Lib.hid hc7
            obtain ⟨ady, rfl, _, hcy0, _⟩ := HY.out.2.2.2 (fromK s k q) h6
            obtain ⟨sq, hsv⟩ : ∃ z, s q = z := ⟨_, rfl⟩
            obtain ⟨f, hf⟩ : ∃ z, fromK s k q = z := ⟨_, rfl⟩
            obtain ⟨yf, hyf⟩ : ∃ z, y f = z := ⟨_, rfl⟩
            rw [hf] at h6 h7 hcy0 HC7 ⊢
            rw [hyf] at h7
            have hcx : w2.cell? (adx.add q) = some (.int .i64 (sq : Int)) := by rw [← hsv]; exact hcx0
            have hcy : w2.cell? (ady.add f) = some (.int .i64 (yf : Int)) := by rw [← hyf]; exact hcy0
            rw [hsv] at h7 hk5 hsq
            have d5 : decide ((sq : Int) < (k : Int)) = false := decide_eq_false (by omega)
            have d6 : decide (((m - k : Nat) : Int) ≤ (f : Int)) = false := decide_eq_false (by omega)
            have d7 : decide (m - k ≤ f) = false := decide_eq_false (by omega)
            have hfi : (f : Int) < ((m - k : Nat) : Int) := by omega
            have hw5 : IntKind.i64.wrap ((sq : Int) - (k : Int)) = (yf : Int) := by rw [IntWalk.i64_in _ (by omega)]; omega
            have d8 : ((yf : Int) != (yf : Int)) = false := by simp
            clear hsv hf hyf h7 hc7 hcx0 hcy0
            go_wp2_with fail
            go_round
            case rel => exact ⟨q + 1, by omega, by go_num, by rw [HC7.out]; go_num⟩
            case measure => simp [intOf]; omega
          · have hc7 := HSc.out
            rw [if_neg hk5] at hc7
            have HC7 := Lib.hid hc7
            obtain ⟨sq, hsv⟩ : ∃ z, s q = z := ⟨_, rfl⟩
            have hcx : w2.cell? (adx.add q) = some (.int .i64 (sq : Int)) := by rw [← hsv]; exact hcx0
            rw [hsv] at hk5
            have d5 : decide ((sq : Int) < (k : Int)) = true := decide_eq_true (by omega)
            clear hsv hc7 hcx0
            go_wp2_with fail
            go_round
            case rel => exact ⟨q + 1, by omega, by go_num, by rw [HC7.out]; rfl⟩
            case measure => simp [intOf]; omega
        · obtain rfl : q = m := by omega
          have hall := HAll.out
          rw [hall]
          have d9 : (((q - k : Nat) : Int) == ((q - k : Nat) : Int)) = true := by simp
          go_wp2_with fail
          go_ret
          exact ⟨rfl, hB2⟩
end Go.Proofs.Ytpcdbmkmpphhiaa
