/- The walk of colophonlaw06.ImageRows, over what package image answers (ImgI). -/
import Derived.Test.YtbepoohphmicdaaDoorImgFirst
import Derived.Test.YtbepoohphmicdaaDoorTurned
namespace Go.Proofs.YtbepoohphmicdaaDoor
open Go.RowKit

/-- a number below t out of any int. -/
theorem turn_num_ (a : Int) (t : Nat) (ht : 0 < t) (hs : t ≤ 4194304) : ∃ j : Nat, wrap64 ((IntKind.u64.wrap a).tmod (t : Int)) = (j : Int) ∧ j < t := by
  have hw : 0 ≤ IntKind.u64.wrap a := by rw [IntKind.wrap_u64]; omega
  generalize IntKind.u64.wrap a = x at hw
  have e1 : x.tmod (t : Int) = x % (t : Int) := Int.tmod_eq_emod_of_nonneg hw
  have h1 := Int.emod_nonneg x (show (t : Int) ≠ 0 by omega)
  have h2 := Int.emod_lt_of_pos x (show (0 : Int) < (t : Int) by omega)
  rw [e1]
  refine ⟨(x % (t : Int)).toNat, ?_, by omega⟩
  unfold wrap64
  omega
theorem bit_shift (V : Nat → Nat) (p x : Nat) : Pl.bitB (fun j => V (264 * p + j)) x = Pl.bitB V (2112 * p + x) := by
  unfold Pl.bitB
  rw [show (2112 * p + x) / 8 = 264 * p + x / 8 by omega, show (2112 * p + x) % 8 = x % 8 by omega]
theorem burst_shift (p k t x : Nat) : Pl.burst (2112 * p + k) t (2112 * p + x) = Pl.burst k t x := by
  unfold Pl.burst
  by_cases h : k ≤ x
  · rw [show 2112 * p + x - (2112 * p + k) = x - k by omega]
    simp [h]
  · simp [h]
/-- a page of an image of which a row is turned ends no more with its sum. -/
theorem image_turned (S : List Sec) (p k t : Nat) (hp : p < allPages S) (hk : k + 32 ≤ 2112) (ht : t < 2 ^ 32) (h0 : t ≠ 0) : ¬ Pl.Ends (fun j => turnedTo (imageOf S) (2112 * p + k) t 32 (264 * p + j)) 260 :=
  Pl.turned_no (image_ends S p hp) ht h0 (k := k) (by omega) fun x _ => by
    rw [bit_shift, turnedTo_all _ _ _ _ ht, burst_shift, bit_shift]

section
variable {T : World → Prop} {At : Nat → World → Value → List Sec → Prop}
set_option maxRecDepth 100000 in
set_option maxHeartbeats 3200000 in
theorem imgRows_walk (I : ImgI T At) (P : Option Addr) (c : Nat) (L : List Part) (a0 a1 : Int) (t : Nat) (w : World) (hl : L.length ≤ c) (hcm : c ≤ maxLen) (hP : P = none → L = [] ∧ c = 0) (ho : Secs w w.heap.size P L) (htl : t < 2 ^ 32) (hT : T w) :
    Calls Tryd.prog 5 #[.slice P L.length c, .agg #[.int .i64 a0, .int .i64 a1], .int .u32 (t : Int)] w fun e w' => e = .returned (.bool true) ∧ Below w.heap.size w w' := by
  have HI := Lib.hid I
  have HT := Lib.hid hT
  have HO := Lib.hid ho
  have hbx : Below w.heap.size w (w.alloc (.cells #[.int .i64 a0, .int .i64 a1] 45)) := (Below.refl _ _).alloc (Nat.le_refl _) _
  have HL := Lib.hid (lies_new w 45 [.int .i64 a0, .int .i64 a1])
  have HF := Lib.hid (ifirst_any I _ (I.tk hT hbx))
  have HSz := Lib.hid (fun W (hW : Below w.heap.size w W) => Lib.hid (refSize_any P c L w.heap.size W (by omega) (ho.below hW)))
  have HBu := Lib.hid (fun W (hW : Below w.heap.size w W) => Lib.hid (I.build P c L W (I.tk hT hW) hl hcm hP ((ho.below hW).mono_ hW.size)))
  obtain ⟨k0, hk0⟩ : ∃ k0, L.length = k0 := ⟨_, rfl⟩
  have HK0 := Lib.hid hk0
  rw [hk0] at HSz HBu ⊢
  obtain ⟨z, hz⟩ : ∃ z, sizeFrom 0 L = z := ⟨_, rfl⟩
  rw [hz] at HSz
  clear ho hT I hP hk0 hz
  go_enter Tryd.func5, Tryd.ntmps5
  go_wp2_with fail
  refine HF.out.mono ?_
  rintro e w0 ⟨rfl, hb0⟩
  have hB0 := hbx.trans (hb0.mono hbx.size)
  have HL0 := Lib.hid (HL.out.below hb0 (by rw [size_alloc]; omega))
  have hg0 : w.heap.size < w0.heap.size := by have := hb0.size; rw [size_alloc] at this; omega
  have HS1 := HSz.out w0 hB0
  clear HF hbx hb0 HL HSz
  go_wp2_with fail
  refine HS1.out.mono ?_
  rintro e w1 ⟨rfl, rfl⟩
  by_cases hbig : 50000 < z
  · have hd : decide ((50000 : Int) < (z : Int)) = true := by simp; omega
    go_wp2_with fail
    go_ret
    exact ⟨rfl, hB0⟩
  have hd : decide ((50000 : Int) < (z : Int)) = false := by simp; omega
  have HB1 := HBu.out w0 hB0
  clear HBu HS1
  go_wp2_with fail
  refine HB1.out.mono ?_
  rintro e w1 ⟨h1, h2, h3, hb1⟩
  have hB1 := hB0.trans (hb1.mono hB0.size)
  by_cases hgood : L.length ≤ 60 ∧ allPages (secsP L) ≤ 4096
  · obtain ⟨v, rfl, hv⟩ := h3 hgood.1 hgood.2
    obtain ⟨S, hS⟩ : ∃ S, secsP L = S := ⟨_, rfl⟩
    have hfit : Fits S := by
      rw [← hS]
      exact ⟨by rw [secsP_length]; exact hgood.1, hgood.2, HO.out.bytes⟩
    rw [hS] at hv hgood
    obtain ⟨M, hM⟩ : ∃ M, allPages S = M := ⟨_, rfl⟩
    rw [hM] at hv hgood
    have HM := Lib.hid hM
    have HFit := Lib.hid hfit
    have hM1 : 0 < M := by rw [← hM]; unfold allPages startAt; omega
    have hM4 := hgood.2
    obtain ⟨N, hN⟩ : ∃ N, 264 * M = N := ⟨_, rfl⟩
    rw [hN] at hv
    have HN := Lib.hid hN
    obtain ⟨g, cap, rfl⟩ := Joins.ownsRow_form hv (by omega)
    have hcap : cap ≤ maxLen := by
      rcases hv.2 with ⟨e, _⟩ | ⟨_, _, _, e, _, _, _, h, _⟩
      · cases e
      · cases e
        exact h
    have HCap := Lib.hid hcap
    have hgg : w0.heap.size ≤ g := (hv.lt g rfl).1
    have HV := Lib.hid hv
    have HL1 := Lib.hid (HL0.out.below hb1 hg0)
    have x0 := HL1.out.cell 0
    have x1 := HL1.out.cell 1
    rw [show ([.int .i64 a0, .int .i64 a1] : List Value)[0]? = some (.int .i64 a0) from rfl] at x0
    rw [show ([.int .i64 a0, .int .i64 a1] : List Value)[1]? = some (.int .i64 a1) from rfl] at x1
    have HB1' := Lib.hid hb1
    clear h1 h2 h3 HB1 hfit hgood hM hv hcap hb1
    by_cases ht0 : t = 0
    · subst ht0
      go_wp2_with fail
      go_ret
      exact ⟨rfl, hB1⟩
    · have ht1 : ((t : Int) == 0) = false := by rw [beq_eq_false_iff_ne]; omega
      have hNM : (N : Int) / 264 = (M : Int) := by omega
      have hMw : IntKind.i64.wrap (M : Int) = (M : Int) := IntWalk.i64_in _ (by omega)
      have hMu : IntKind.u64.wrap (M : Int) = (M : Int) := by rw [IntKind.wrap_u64]; omega
      have hMne : (M : Int) ≠ 0 := by omega
      obtain ⟨p, hp, hpM⟩ := turn_num_ a0 M hM1 (by omega)
      obtain ⟨q, hq, hq1⟩ := turn_num_ a1 2081 (by decide) (by decide)
      clear hN
      go_wp2_with fail
      have hq' : wrap64 ((IntKind.u64.wrap a1).tmod 2081) = (q : Int) := hq
      rw [hq']
      obtain ⟨K, hK⟩ : ∃ K, 2112 * p + q = K := ⟨_, rfl⟩
      have hK' : wrap64 (2112 * (p : Int) + (q : Int)) = (K : Int) := by unfold wrap64; omega
      rw [hK']
      have HK := Lib.hid hK
      clear hq hq' hK' hp ht1 hNM hMw hMu hMne x0 x1 HL1
      have hNN := HN.out
      have hKN : K + 32 ≤ 8 * N := by
        clear htl
        omega
      have hN2 : N ≤ 1081344 := by
        clear htl
        omega
      clear hNN hK
      have HU0 := Lib.hid HFit.out.byte
      go_loopw [11] (fun v wr => ∃ i : Nat, i ≤ 32 ∧ v = .int .i64 (i : Int) ∧ Hid (wr.ownsRow w0.heap.size 5 1 (.slice (some ⟨g, 0, none⟩) N cap) N (ycells (turnedTo (imageOf S) K t i) N)) ∧ Below w0.heap.size w0 wr) (fun v _ => 32 - (intOf v).toNat)
      case atStart => exact ⟨0, by decide, rfl, HV, HB1'.out⟩
      case round =>
        obtain ⟨j, hj, rfl, hrow, hB⟩ := hrel
        by_cases hlt : j < 32
        · have hbt := bit_test32 t j htl
          have hj32 : (j : Int) < 32 := by omega
          cases hb : t.testBit j
          · rw [hb] at hbt
            have HE := Lib.hid (show turnedTo (imageOf S) K t (j + 1) = turnedTo (imageOf S) K t j by
              funext x
              rw [turnedTo_succ, if_neg (by rw [hb]; simp)])
            go_wp2_with fail
            go_roundw
            case rel => exact ⟨j + 1, by omega, by go_num, by rw [HE.out]; exact hrow, hB⟩
            case measure => simp [intOf]; omega
          · rw [hb] at hbt
            have hp8 : (K + j) / 8 < N := by omega
            obtain ⟨z, hz⟩ : ∃ z, (K + j) / 8 = z := ⟨_, rfl⟩
            obtain ⟨r, hr⟩ : ∃ r, (K + j) % 8 = r := ⟨_, rfl⟩
            have hr8 : r < 8 := by omega
            have hcell := row_cell hrow.out (show z < N by omega)
            have hfz := hrow.out.frozenAt z
            have hy := turnedTo_lt (k := K) (t := t) HU0.out j z
            have HE := Lib.hid (show turnedTo (imageOf S) K t (j + 1) = fun x => if z = x then turnedTo (imageOf S) K t j z ^^^ 2 ^ r else turnedTo (imageOf S) K t j x by
              funext x
              rw [turnedTo_succ, hz, hr]
              by_cases hx : z = x
              · subst hx; rw [if_pos ⟨rfl, hb⟩, if_pos rfl]
              · rw [if_neg (fun h => hx h.1), if_neg hx])
            generalize hyy : turnedTo (imageOf S) K t j z = y at hcell hy HE
            have hd8 : ((K : Int) + (j : Int)) / 8 = (z : Int) := by omega
            have hm8 : ((K : Int) + (j : Int)) % 8 = (r : Int) := by omega
            have hzN : (z : Int) < (N : Int) := by omega
            have HST := Lib.hid (row_store (q := z) (y := y ^^^ 2 ^ r) hrow.out)
            clear hz hr hyy
            have HXR := Lib.hid (show bits .xor .u8 (y : Int) (2 ^ r % 256) = ((y ^^^ 2 ^ r : Nat) : Int) by
              have hp : 2 ^ r < 256 := by
                have : 2 ^ r < 2 ^ 8 := Nat.pow_lt_pow_right (by decide) hr8
                simpa using this
              have e : (2 : Int) ^ r % 256 = ((2 ^ r : Nat) : Int) := by
                have h1 : ((2 ^ r : Nat) : Int) = (2 : Int) ^ r := by simp
                rw [← h1]
                exact Int.emod_eq_of_lt (Int.natCast_nonneg _) (Int.ofNat_lt.2 hp)
              rw [e]
              exact u8_xor_nat y (2 ^ r) hy hp)
            go_wp2_with fail
            go_roundw
            case rel =>
              rw [HXR.out]
              refine ⟨j + 1, by omega, by go_num, Lib.hid ?_, hB.setCell hgg _⟩
              rw [HE.out]
              exact HST.out
            case measure => simp [intOf]; omega
        · have hj32 : j = 32 := by omega
          subst hj32
          have hUlt := fun x => turnedTo_lt (k := K) (t := t) HU0.out 32 x
          obtain ⟨X, cx, hX, hXA, hXc, hXo⟩ := row_bys hrow.out (fun x _ => hUlt x)
          cases hX
          have hBw := hB0.trans (hB.mono hB0.size)
          have HG := Lib.hid (HI.out.open_ (some ⟨g, 0, none⟩) N cap (turnedTo (imageOf S) K t 32) wr (HI.out.tk HT.out hBw) (by omega) hXA hXc HCap.out hXo)
          have HNO := Lib.hid (show ¬ ∃ L, IsImage N (turnedTo (imageOf S) K t 32) L from no_image_sum (p := p) (by have := HN.out; omega) (by rw [← HK.out]; exact image_turned S p q t (by rw [HM.out]; exact hpM) (by omega) htl ht0))
          clear hXo hXA hUlt
          go_wp2_with fail
          refine HG.out.mono ?_
          rintro e w5 ⟨_, h3, hb5⟩
          obtain rfl := h3 HNO.out
          clear h3
          go_wp2_with fail
          go_ret
          exact ⟨rfl, hBw.trans (hb5.mono hBw.size)⟩
  · have hbad : e = .returned (.tuple #[.slice none 0 0, .int .i64 80]) := by
      by_cases h60 : L.length ≤ 60
      · exact h2 h60 (by omega)
      · exact h1 (by omega)
    subst hbad
    clear h1 h2 h3 HB1
    go_wp2_with fail
    go_ret
    exact ⟨rfl, hB1⟩
end
end Go.Proofs.YtbepoohphmicdaaDoor
