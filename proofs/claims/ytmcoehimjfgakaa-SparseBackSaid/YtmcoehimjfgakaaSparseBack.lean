/- For every input colophonlaw03.SparseBack returns true, and its arguments read as they read. No condition. -/
import Derived.Test.YtmcoehimjfgakaaSpRows
namespace Go.Proofs.Ytmcoehimjfgakaa.sparseBack
open Go.ChangeShapes Go.WideShapes Go.ChangeAt Go.RowKit

/-- words of which a bit is turned. -/
def flip (ws : List Nat) (b : Nat) : List Nat := ws.set (b / 64) (ws.getD (b / 64) 0 ^^^ 2 ^ (b % 64))
theorem flip_length (ws : List Nat) (b : Nat) : (flip ws b).length = ws.length := by unfold flip; simp
theorem flip_small {ws : List Nat} (h : Pl.Small ws) (b : Nat) : Pl.Small (flip ws b) :=
  h.set_ _ (Nat.xor_lt_two_pow (h.at_ _) (Nat.pow_lt_pow_right (by decide) (Nat.mod_lt _ (by decide))))
theorem flip_ne {ws : List Nat} {b : Nat} (hb : b < 64 * ws.length) : flip ws b ≠ ws := fun e => by
  have h : Pl.bitAt (flip ws b) b = Pl.bitAt ws b := by rw [e]
  unfold flip at h
  rw [Pl.bitAt_set _ _ _ _ (by omega), if_pos rfl, Nat.testBit_xor, Nat.testBit_two_pow] at h
  unfold Pl.bitAt at h
  revert h
  cases (ws.getD (b / 64) 0).testBit (b % 64) <;> simp

/-- a number below t out of any int. -/
theorem rest_num (a : Int) (t : Nat) (ht : 0 < t) (hs : t ≤ 4194304) : ∃ j : Nat, wrap64 ((IntKind.u64.wrap a).tmod (t : Int)) = (j : Int) ∧ j < t := by
  have hw : 0 ≤ IntKind.u64.wrap a := by rw [IntKind.wrap_u64]; omega
  generalize IntKind.u64.wrap a = x at hw
  have e1 : x.tmod (t : Int) = x % (t : Int) := Int.tmod_eq_emod_of_nonneg hw
  have h1 := Int.emod_nonneg x (show (t : Int) ≠ 0 by omega)
  have h2 := Int.emod_lt_of_pos x (show (0 : Int) < (t : Int) by omega)
  rw [e1]
  refine ⟨(x % (t : Int)).toNat, ?_, by omega⟩
  unfold wrap64
  omega
theorem xor_num (x y : Nat) (hx : x < 2 ^ 64) (hy : y < 2 ^ 64) : bits .xor .u64 (x : Int) (y : Int) = ((x ^^^ y : Nat) : Int) := bits_xor_u64_nat x y (by omega) (by omega)

/-- a row of words of the call's own that begins at a block's head, where it has words. -/
theorem Wrow.form {w : World} {B : Nat} {v : Value} {ws : List Nat} (h : Wrow w B v ws) (hn : 0 < ws.length) : ∃ g c, v = .slice (some ⟨g, 0, none⟩) ws.length c ∧ Row w B g ws.length c ws := own_form h hn
theorem Row.rd {w : World} {B g n c : Nat} {ws : List Nat} (h : Row w B g n c ws) (hn : n = ws.length) : Rd w (some ⟨g, 0, none⟩) ws := Rd.of_src (h.src hn)
theorem Row.cap {w : World} {B g n c : Nat} {ws : List Nat} (h : Row w B g n c ws) (hn : 0 < n) : n ≤ c := by
  rcases h.own.2 with ⟨_, h0⟩ | ⟨g', cap, cur, e, _, _, h1, _⟩
  · omega
  · injection e with _ _ e3
    omega
theorem fit_len {n m : Nat} {hs ls : List Nat} {l : Nat → Nat} (h : Fit n m hs ls l) (hm : 1 ≤ m) (hn : n ≤ 20000) (hm5 : m ≤ 500) : 0 < hs.length ∧ hs.length ≤ 400 ∧ 0 < ls.length ∧ ls.length ≤ 65536 := by
  have h1 := h.high.len
  have h3 := h.low.len
  have h5 := h.low.w1
  have h6 := h.low.w64
  have hq : (n - 1) / 2 ^ Pl.lw n m ≤ n - 1 := Nat.div_le_self _ _
  have hc : Pl.bitsOf n m (2 ^ Pl.lw n m) = m + (n - 1) / 2 ^ Pl.lw n m + 1 := rfl
  generalize (n - 1) / 2 ^ Pl.lw n m = q at hq hc
  have h7 : 1 ≤ m * max 1 (Pl.lw n m) := Nat.mul_le_mul hm h5
  have h8 : m * max 1 (Pl.lw n m) ≤ 500 * 64 := Nat.mul_le_mul hm5 h6
  generalize m * max 1 (Pl.lw n m) = p at h3 h7 h8
  omega

theorem Fit.at_place {n m : Nat} {hs ls : List Nat} {l : Nat → Nat} (h : Fit n m hs ls l) {i : Nat} (hi : i < m) : Pl.place (Pl.bitAt hs) (Pl.bitsOf n m (2 ^ Pl.lw n m)) (2 ^ Pl.lw n m) (Pl.getN ls (max 1 (Pl.lw n m))) i = l i :=
  h.rise.place (fun _ hj => h.low.get hj) (fun b hb => h.high.same b hb) hi
theorem Fit.inj {n m : Nat} {hs ls : List Nat} {l l' : Nat → Nat} (h : Fit n m hs ls l) (h' : Fit n m hs ls l') {i : Nat} (hi : i < m) : l' i = l i := (Fit.at_place h' hi).symm.trans (Fit.at_place h hi)

set_option maxRecDepth 100000 in
set_option maxHeartbeats 3200000 in
/-- no places. -/
theorem walk_none (N : Nat) (A : Option Addr) (c : Nat) (x : Int) (w : World) (hN : N ≤ 20000) (ho : Its w w.heap.size A 0 (fun _ => 0)) :
    Calls Try.prog 5 #[.int .i64 (N : Int), .slice A 0 c, .int .i64 x] w fun e w' => e = .returned (.bool true) ∧ Below w.heap.size w w' := by
  have HF := Lib.hid (sfirst_any w)
  have HRi : ∀ W, Below w.heap.size w W → Hid (Calls Try.prog 10 #[.int .i64 (N : Int), .slice A 0 c] W fun e w' => e = .returned (.bool true) ∧ W = w') := fun W hW => by
    have e := sright_any (N : Int) A 0 c (fun _ => 0) w.heap.size W (by omega) (ho.below hW)
    have e2 : rightS (N : Int) (fun _ => 0) 0 = true := by unfold rightS riseB; simp; omega
    rw [e2] at e
    exact Lib.hid e
  have HW := fun W => Lib.hid (swords_zero (N : Int) A c W)
  have HFr := fun W => Lib.hid (sfrom_zero N none none 0 0 (fun _ => 0) W (by omega))
  clear ho
  go_enter Try.func5, Try.ntmps5
  go_wp2_with fail
  with_reducible refine HF.out.mono ?_
  rintro e w1 ⟨rfl, hb1⟩
  go_wp2_with fail
  with_reducible refine (HRi _ hb1).out.mono ?_
  rintro e w' ⟨rfl, rfl⟩
  go_wp2_with fail
  with_reducible refine (HW _).out.mono ?_
  rintro e w' ⟨rfl, rfl⟩
  go_wp2_with fail
  with_reducible refine (HFr _).out.mono ?_
  rintro e w2 ⟨g, rfl, hst, hb2⟩
  have hB2 := hb1.trans (hb2.mono hb1.size)
  have HL := Lib.hid (st_len hst)
  clear hst hb1 hb2
  go_wp2_with fail
  with_reducible refine HL.out.mono ?_
  rintro e w' ⟨rfl, rfl⟩
  go_wp2_with fail
  go_loopw [61] (fun v wr => v = .int .i64 0 ∧ wr = w2) (fun _ _ => 0)
  case atStart => exact ⟨rfl, rfl⟩
  case round =>
    obtain ⟨rfl, rfl⟩ := hrel
    go_wp2_with fail
    go_ret
    exact ⟨rfl, hB2⟩

set_option maxRecDepth 100000 in
set_option maxHeartbeats 6400000 in
/-- right places. -/
theorem walk_right (N : Nat) (A : Option Addr) (m c : Nat) (l : Nat → Nat) (V : Nat → Int) (x : Int) (w : World) (hm0 : 1 ≤ m) (hm : m ≤ 500) (hN : N ≤ 20000) (ho : Its w w.heap.size A m V) (hr : Pl.Rise N m l) (he : ∀ i, i < m → V i = ((l i : Nat) : Int)) :
    Calls Try.prog 5 #[.int .i64 (N : Int), .slice A m c, .int .i64 x] w fun e w' => e = .returned (.bool true) ∧ Below w.heap.size w w' := by
  have HF := Lib.hid (sfirst_any w)
  have hright := sright_yes (show N ≤ 4194304 by omega) hr he
  have HRi : ∀ W, Below w.heap.size w W → Hid (Calls Try.prog 10 #[.int .i64 (N : Int), .slice A m c] W fun e w' => e = .returned (.bool true) ∧ W = w') := fun W hW => by
    have e := sright_any (N : Int) A m c V w.heap.size W (by omega) (ho.below hW)
    rw [hright] at e
    exact Lib.hid e
  have HWd : ∀ W, Below w.heap.size w W → Hid (Calls Try.prog 18 #[.int .i64 (N : Int), .slice A m c] W (SWords W N m l)) := fun W hW => Lib.hid (by
    refine swords_any N m A c l w.heap.size W (by omega) hm0 (by omega) ?_ hW.size ((ho.nts he).below hW) hr
    have := Pl.lw_le (n := N) (m := m) (by omega)
    have h22 : max 1 (Pl.lw N m) ≤ 22 := by omega
    have := Nat.mul_le_mul hm h22
    omega)
  have HNt := Lib.hid (ho.nts he)
  have hmn := hr.few
  have hN4 : N ≤ 4194304 := by omega
  have hNm : N + m ≤ 4194304 := by omega
  have d1 : decide ((500 : Int) < (m : Int)) = false := by simp; omega
  have d2 : decide ((20000 : Int) < (N : Int)) = false := by simp; omega
  clear ho hr he hright
  go_enter Try.func5, Try.ntmps5
  go_wp2_with fail
  with_reducible refine HF.out.mono ?_
  rintro e w1 ⟨rfl, hb1⟩
  go_wp2_with fail
  with_reducible refine (HRi _ hb1).out.mono ?_
  rintro e w' ⟨rfl, rfl⟩
  go_wp2_with fail
  with_reducible refine (HWd _ hb1).out.mono ?_
  rintro e w2 ⟨v1, v2, hs, ls, B2, rfl, hw1, hw2, hap, hB12, hfit, hb2⟩
  have hB2 := hb1.trans (hb2.mono hb1.size)
  obtain ⟨hl1, hl2, hl3, hl4⟩ := fit_len hfit hm0 hN hm
  obtain ⟨g1, c1, rfl, hr1⟩ := Wrow.form hw1 hl1
  obtain ⟨g2, c2, rfl, hr2⟩ := Wrow.form hw2 hl3
  have hg12 : g1 < g2 := Nat.lt_of_lt_of_le (hap g1 rfl) hr2.lt.1
  have hg1w : w.heap.size ≤ g1 := Nat.le_trans hb1.size hr1.lt.1
  have hcap := Row.cap hr1 hl1
  have HF1 := Lib.hid (sfrom_walk N m (some ⟨g1, 0, none⟩) (some ⟨g2, 0, none⟩) c1 c2 hs ls w2 hN4 hm0 hmn hNm (Row.rd hr1 rfl) (Row.rd hr2 rfl) (fun e => by cases e) hcap (by omega) (by omega) hfit.small1 hfit.small2)
  have HFit := Lib.hid hfit
  have HR1 := Lib.hid hr1
  have HR2 := Lib.hid hr2
  obtain ⟨L, hL⟩ : ∃ L, hs.length = L := ⟨_, rfl⟩
  obtain ⟨L2, hL2⟩ : ∃ L2, ls.length = L2 := ⟨_, rfl⟩
  rw [hL, hL2] at HF1 ⊢
  have HL := Lib.hid hL
  have HL2 := Lib.hid hL2
  rw [hL] at hl1 hl2 hcap
  rw [hL2] at hl3 hl4
  clear hw1 hw2 hap hfit hr1 hr2 hb1 hb2 hL hL2 HWd HRi
  go_wp2_with fail
  with_reducible refine HF1.out.mono ?_
  rintro e w3 (⟨hno, _⟩ | ⟨l', hf', g, rfl, hst, hb3⟩)
  · exact absurd ⟨l, HFit.out⟩ hno
  have hB3 := hB2.trans (hb3.mono hB2.size)
  have HEq : Hid (∀ i, i < m → l' i = l i) := Lib.hid fun i hi => Fit.inj HFit.out hf' hi
  have HR13 := Lib.hid (HR1.out.below hb3 HR1.out.lt.2)
  have HR23 := Lib.hid (HR2.out.below hb3 HR2.out.lt.2)
  have HS3 := Lib.hid hst
  have HLn := Lib.hid (st_len hst)
  have hg1lt : g1 < w3.heap.size := HR13.out.lt.2
  clear hst hb3 hB2 hf' HF1
  generalize w2.heap.size = B at HS3
  go_wp2_with fail
  with_reducible refine HLn.out.mono ?_
  rintro e w' ⟨rfl, rfl⟩
  clear HLn
  go_wp2_with fail
  go_loopw [61] (fun v wr => ∃ j : Nat, j ≤ m ∧ v = .int .i64 (j : Int) ∧ Hid (St wr B g N m hs ls l') ∧ Below w.heap.size w wr ∧ Below w3.heap.size w3 wr) (fun v _ => m - (intOf v).toNat)
  case atStart => exact ⟨0, Nat.zero_le _, rfl, HS3, hB3, Below.refl _ _⟩
  case round =>
    clear HS3 hB3
    obtain ⟨j, hj, rfl, HS, hBx, hBx3⟩ := hrel
    by_cases hltj : j < m
    · obtain ⟨ad, rfl, had, hV⟩ := (HNt.out.below hBx) j hltj
      have HA1 : ∀ {W : World}, Below wr.heap.size wr W → Hid (Calls Try.prog 16 #[.pointer (some ⟨g, 0, none⟩), .int .i64 (j : Int)] W fun e w' => e = .returned (.int .i64 ((l j : Nat) : Int)) ∧ Below W.heap.size W w') := fun h => by
        have c := st_at (HS.out.keep h) j hltj
        rw [HEq.out j hltj] at c
        exact Lib.hid c
      have HVc : ∀ W, Below wr.heap.size wr W → W.cell? (ad.add j) = some (.int .i64 ((l j : Nat) : Int)) ∧ Below wr.heap.size wr W := fun W h => ⟨by
        obtain ⟨ad', e, _, hc⟩ := (HNt.out.below (hBx.trans (h.mono hBx.size))) j hltj
        cases e
        exact hc, h⟩
      have hV0 := Lib.hid hV
      obtain ⟨z, hz⟩ : ∃ z, l j = z := ⟨_, rfl⟩
      rw [hz] at HA1 HVc hV
      have hbd0 := below_drew' (Below.refl wr.heap.size wr)
      have HVV := Lib.hid HVc
      clear HVc hz hV0
      go_upto_region 12 with (fail)
      go_cut [71] (fun s wx => s = .bool false ∧ Below wr.heap.size wr wx)
      case first =>
        go_region_held3 (fun w' => w'.cell? (ad.add j) = some (.int .i64 (z : Int)) ∧ Below wr.heap.size wr w')
          ((first
            | exact HVV.out _ hbd0
            | exact HVV.out _ hC1))
          (first
            | (go_at_call 16; (with_reducible refine (HA1 hbd0).out.mono ?_); rintro e x1 ⟨rfl, hc1⟩; have hC1 := hbd0.trans (hc1.mono (Nat.le_refl _))))
        all_goals
          go_wp2_with fail
          go_meet
          exact ⟨rfl, hC1⟩
      case rest =>
        obtain ⟨rfl, hCx⟩ := hcut
        have hBc := hBx.trans (hCx.mono hBx.size)
        have hBc3 := hBx3.trans (hCx.mono hBx3.size)
        have HS' := Lib.hid (HS.out.keep hCx)
        clear hV hbd0 hCx
        go_wp2_with fail
        go_roundw
        case rel => exact ⟨j + 1, by omega, by go_num, HS', hBc, hBc3⟩
        case measure => simp [intOf]; omega
    · have HRx1 := Lib.hid (HR13.out.below hBx3 hg1lt)
      have HRx2 := Lib.hid (HR23.out.below hBx3 HR23.out.lt.2)
      clear HS HR13 HR23 hBx3
      have hz : ((L : Int) == 0) = false := by rw [beq_eq_false_iff_ne]; omega
      obtain ⟨T, hT⟩ : ∃ T, 64 * L = T := ⟨_, rfl⟩
      have eT : 64 * (L : Int) = (T : Int) := by omega
      obtain ⟨k, hk, hkT⟩ := rest_num x T (by omega) (by omega)
      go_upto_region 18 with (fail)
      rw [hk]
      clear hk eT
      obtain ⟨q, hq⟩ : ∃ q, k / 64 = q := ⟨_, rfl⟩
      obtain ⟨r, hr⟩ : ∃ r, k % 64 = r := ⟨_, rfl⟩
      have hqL : q < L := by omega
      have hr64 : r < 64 := by omega
      have hcell := HRx1.out.at_ rfl q (by rw [HL.out]; exact hqL)
      have hfz := HRx1.out.free q
      have hx64 := HFit.out.small1.at_ q
      have hp : 2 ^ r < 2 ^ 64 := Nat.pow_lt_pow_right (by decide) hr64
      obtain ⟨y, hy⟩ : ∃ y, hs.getD q 0 = y := ⟨_, rfl⟩
      rw [hy] at hcell hx64
      have hxor : bits .xor .u64 (y : Int) (IntKind.u64.wrap (2 ^ r)) = ((y ^^^ 2 ^ r : Nat) : Int) := by
        have e : (2 : Int) ^ r = ((2 ^ r : Nat) : Int) := by simp [Int.natCast_pow]
        rw [e, wrap_u, Nat.mod_eq_of_lt hp, xor_num y _ hx64 hp]
      have HXo := Lib.hid hxor
      have hflip : flip hs k = hs.set q (y ^^^ 2 ^ r) := by unfold flip; rw [hq, hr, hy]
      have HFl := Lib.hid hflip
      have hk64 : k < 64 * L := by omega
      have HKL := Lib.hid hk64
      have e1 : (k : Int) / 64 = (q : Int) := by omega
      have e2 : (k : Int) % 64 = (r : Int) := by omega
      have hrow := HRx1.out.put q (y ^^^ 2 ^ r)
      rw [← hflip] at hrow
      have hHRow := Lib.hid hrow
      have hrow2 := HRx2.out.same (w' := wr.setCell ⟨g1, q, none⟩ (.int .u64 ((y ^^^ 2 ^ r : Nat) : Int))) (Below.heap_setCell wr ⟨g1, q, none⟩ _ g2 (by show g2 ≠ g1; omega))
      have HRow2 := Lib.hid hrow2
      have hBy := hBx.setCell (p := ⟨g1, q, none⟩) hg1w (.int .u64 ((y ^^^ 2 ^ r : Nat) : Int))
      have HBy := Lib.hid hBy
      have HFr := sfrom_walk N m (some ⟨g1, 0, none⟩) (some ⟨g2, 0, none⟩) c1 c2 (flip hs k) ls (wr.setCell ⟨g1, q, none⟩ (.int .u64 ((y ^^^ 2 ^ r : Nat) : Int))) hN4 hm0 hmn hNm (Row.rd hrow (by rw [flip_length])) (Row.rd hrow2 rfl) (fun e => by cases e) (by rw [flip_length, HL.out]; exact hcap) (by rw [flip_length, HL.out]; omega) (by rw [HL2.out]; omega) (flip_small HFit.out.small1 k) HFit.out.small2
      rw [flip_length, HL.out, HL2.out] at HFr
      have HFF := Lib.hid HFr
      clear hq hr hy hxor hp hflip hrow hrow2 hBy HFr hx64
      go_wp2_with fail
      rw [HXo.out]
      with_reducible refine HFF.out.mono ?_
      clear hcell hfz e1 e2
      rintro e w5 (⟨_, rfl, hb5⟩ | ⟨l2, hf2, g5, rfl, hst5, hb5⟩)
      · have hB5 := HBy.out.trans (hb5.mono HBy.out.size)
        go_wp2_with fail
        go_ret
        exact ⟨rfl, hB5⟩
      · have hB5 := HBy.out.trans (hb5.mono HBy.out.size)
        have HS5 := Lib.hid hst5
        have HF2 := Lib.hid hf2
        clear hst5 hf2 hb5
        generalize (wr.setCell ⟨g1, q, none⟩ (.int .u64 ((y ^^^ 2 ^ r : Nat) : Int))).heap.size = B5 at HS5
        go_wp2_with fail
        go_loopw [110] (fun v wx => ∃ t : Nat, t ≤ m ∧ v = .int .i64 (t : Int) ∧ Hid (∀ i, i < t → l i = l2 i) ∧ Hid (St wx B5 g5 N m (flip hs k) ls l2) ∧ Below w.heap.size w wx) (fun v _ => m - (intOf v).toNat)
        case atStart => exact ⟨0, Nat.zero_le _, rfl, Lib.hid (fun i hi => absurd hi (Nat.not_lt_zero _)), HS5, hB5⟩
        case round =>
          clear HS5 hB5
          obtain ⟨t, ht, rfl, HSame, HS, hBz⟩ := hrel
          by_cases hltt : t < m
          · obtain ⟨ad, rfl, had, hV⟩ := (HNt.out.below hBz) t hltt
            have HA1 : ∀ {W : World}, Below wr.heap.size wr W → Hid (Calls Try.prog 16 #[.pointer (some ⟨g5, 0, none⟩), .int .i64 (t : Int)] W fun e w' => e = .returned (.int .i64 ((l2 t : Nat) : Int)) ∧ Below W.heap.size W w') := fun h => Lib.hid (st_at (HS.out.keep h) t hltt)
            have HVc : ∀ W, Below wr.heap.size wr W → W.cell? (ad.add t) = some (.int .i64 ((l t : Nat) : Int)) ∧ Below wr.heap.size wr W := fun W h => ⟨by
              obtain ⟨ad', e, _, hc⟩ := (HNt.out.below (hBz.trans (h.mono hBz.size))) t hltt
              cases e
              exact hc, h⟩
            obtain ⟨z, hz⟩ : ∃ z, l t = z := ⟨_, rfl⟩
            obtain ⟨z2, hz2⟩ : ∃ z2, l2 t = z2 := ⟨_, rfl⟩
            rw [hz] at HVc hV
            rw [hz2] at HA1
            have HZ := Lib.hid hz
            have HZ2 := Lib.hid hz2
            have hbd0 := below_drew' (Below.refl wr.heap.size wr)
            have HVV := Lib.hid HVc
            clear HVc hz hz2
            by_cases hzz : z2 = z
            · subst hzz
              have HSame2 : Hid (∀ i, i < t + 1 → l i = l2 i) := Lib.hid fun i hi => by
                by_cases e : i = t
                · rw [e, HZ.out, HZ2.out]
                · exact HSame.out i (by omega)
              go_upto_region 25 with (fail)
              go_cut [120] (fun s wx => s = .bool false ∧ Below wr.heap.size wr wx)
              case first =>
                go_region_held3 (fun w' => w'.cell? (ad.add t) = some (.int .i64 (z2 : Int)) ∧ Below wr.heap.size wr w')
                  ((first
                    | exact HVV.out _ hbd0
                    | exact HVV.out _ hC1))
                  (first
                    | (go_at_call 16; (with_reducible refine (HA1 hbd0).out.mono ?_); rintro e x1 ⟨rfl, hc1⟩; have hC1 := hbd0.trans (hc1.mono (Nat.le_refl _))))
                all_goals
                  go_wp2_with fail
                  go_meet
                  exact ⟨rfl, hC1⟩
              case rest =>
                obtain ⟨rfl, hCx⟩ := hcut
                have hBc := hBz.trans (hCx.mono hBz.size)
                have HS' := Lib.hid (HS.out.keep hCx)
                clear hV hbd0 hCx
                go_wp2_with fail
                go_roundw
                case rel => exact ⟨t + 1, by omega, by go_num, HSame2, HS', hBc⟩
                case measure => simp [intOf]; omega
            · have dz : ((z2 : Int) != (z : Int)) = true := by simp; omega
              go_upto_region 25 with (fail)
              go_cut [120] (fun s wx => s = .bool true ∧ Below wr.heap.size wr wx)
              case first =>
                go_region_held3 (fun w' => w'.cell? (ad.add t) = some (.int .i64 (z : Int)) ∧ Below wr.heap.size wr w')
                  ((first
                    | exact HVV.out _ hbd0
                    | exact HVV.out _ hC1))
                  (first
                    | (go_at_call 16; (with_reducible refine (HA1 hbd0).out.mono ?_); rintro e x1 ⟨rfl, hc1⟩; have hC1 := hbd0.trans (hc1.mono (Nat.le_refl _))))
                all_goals
                  go_wp2_with fail
                  go_meet
                  exact ⟨rfl, hC1⟩
              case rest =>
                obtain ⟨rfl, hCx⟩ := hcut
                have hBc := hBz.trans (hCx.mono hBz.size)
                clear hV hbd0 hCx
                go_wp2_with fail
                go_ret
                exact ⟨rfl, hBc⟩
          · have htm : t = m := by omega
            exfalso
            have hag := HFit.out.agree (l' := l2) fun i hi => HSame.out i (by omega)
            exact flip_ne (by rw [HL.out]; exact HKL.out) (hag.unique HF2.out).1.symm

set_option maxRecDepth 100000 in
set_option maxHeartbeats 1600000 in
theorem walk (n : Int) (A : Option Addr) (m c : Nat) (V : Nat → Int) (x : Int) (w : World) (_hn : (Lit.int .i64 n).wf = true) (hm : m ≤ maxLen) (_hA : A = none → m = 0 ∧ c = 0) (ho : Its w w.heap.size A m V) (_hx : (Lit.int .i64 x).wf = true) :
    Calls Try.prog 5 #[.int .i64 n, .slice A m c, .int .i64 x] w fun e w' => e = .returned (.bool true) ∧ Below w.heap.size w w' := by
  unfold maxLen at hm
  have HF := Lib.hid (sfirst_any w)
  by_cases h1 : 500 < m
  · clear ho
    go_enter Try.func5, Try.ntmps5
    go_wp2_with fail
    with_reducible refine HF.out.mono ?_
    rintro e w1 ⟨rfl, hb1⟩
    go_wp2_with fail
    go_ret
    exact ⟨rfl, hb1⟩
  · by_cases h2 : 20000 < n
    · clear ho
      go_enter Try.func5, Try.ntmps5
      go_wp2_with fail
      with_reducible refine HF.out.mono ?_
      rintro e w1 ⟨rfl, hb1⟩
      go_wp2_with fail
      go_ret
      exact ⟨rfl, hb1⟩
    · cases hr : rightS n V m with
      | false =>
        have HRi : ∀ W, Below w.heap.size w W → Hid (Calls Try.prog 10 #[.int .i64 n, .slice A m c] W fun e w' => e = .returned (.bool false) ∧ W = w') := fun W hW => by
          have e := sright_any n A m c V w.heap.size W (by omega) (ho.below hW)
          rw [hr] at e
          exact Lib.hid e
        clear ho hr
        go_enter Try.func5, Try.ntmps5
        go_wp2_with fail
        with_reducible refine HF.out.mono ?_
        rintro e w1 ⟨rfl, hb1⟩
        go_wp2_with fail
        with_reducible refine (HRi _ hb1).out.mono ?_
        rintro e w' ⟨rfl, rfl⟩
        go_wp2_with fail
        go_ret
        exact ⟨rfl, hb1⟩
      | true =>
        obtain ⟨N, l, rfl, hN, hrise, he⟩ := right_nat hr
        by_cases hm0 : m = 0
        · subst hm0
          exact walk_none N A c x w (by omega) (fun k hk => absurd hk (Nat.not_lt_zero _))
        · exact walk_right N A m c l V x w (by omega) (by omega) (by omega) ho hrise he

theorem own : ownKnob Try.prog.godebug = none := by kernel_rfl
theorem laidOut : laidOutB Try.prog = true := by kernel_rfl

set_option maxRecDepth 100000 in
theorem lifted (os : Os) (started : os.Started) (H : Type) (enc : TypeId × Value → H) :
    ReturnsInHanded {} Try.checked os 5 .any (Rows.sparseBackSpec.pre6 enc Try.prog Try.f5 Rows.sparseBackRow.domain false) (Rows.sparseBackSpec.post enc Try.prog Try.f5 false true false false) := by
  refine returnsInHanded_of_change (C := Try.checked) own started (by kernel_rfl) Try.func5
    (ChangeSpec.witness6 (enc := enc) (C := Try.checked) false ⟨#[], #[.int .i64 0, .slice none 0 0, .int .i64 0], []⟩ 8 (by kernel_rfl) (by kernel_rfl) (by kernel_rfl) (by kernel_rfl)) ?_
  intro W base args ds gs before hval0 hW hcnd _
  have hval : ∀ (j : Nat) t v, Try.f5.params[j]? = some t → args[j]? = some v → Value.okWide Try.prog W .any base t v := hval0
  have hW' := hW
  obtain ⟨p, q, hA0, hV, rfl, hfz, hnd⟩ := hW
  have hA : DataW.TrodAll enc Try.prog W 0 (fun _ => true) true Try.f5.params.toList args.toList ds p := hA0
  rw [Try.params5] at hA hval
  obtain ⟨v0, v1, v2, d0, d1, d2, p0, p1, p2, rfl, rfl, rfl, h0, h1, h2⟩ := trodAll_three hA
  obtain ⟨rfl, rfl⟩ := trodVars_none hV
  obtain ⟨a0, rfl, rfl, rfl, wa0⟩ := open_int Try.underlying3 (hval 0 3 v0 rfl rfl) h0
  obtain ⟨A1, n1, c1, V1, rfl, hn1, hz1, ho1⟩ := open_list (hval 1 22 v1 rfl rfl) h1
  obtain ⟨a2, rfl, rfl, rfl, wa2⟩ := open_int Try.underlying3 (hval 2 3 v2 rfl rfl) h2
  clear hA0 hval0
  refine (walk a0 A1 n1 c1 V1 a2 W wa0 hn1 hz1 ho1 wa2).mono fun e W' ⟨he, hg⟩ => ?_
  subst he
  exact ⟨_, rfl, law_post laidOut rfl rfl rfl (by rw [Try.params5]; decide +kernel) hW' hg⟩

/-- The statement. -/
theorem proved : Rows.SparseBackSaid :=
  OpenClaim.holds_of_wide 5 Try.f5 rfl rfl rfl rfl rfl rfl rfl ⟨rfl, rfl, rfl, rfl, rfl⟩ rfl rfl rfl rfl rfl (by kernel_rfl) Try.func5 (by kernel_rfl)
    (of_decide_eq_true (by kernel_rfl)) (by unfold Func.isWrapper; first | (rw [if_pos (by decide +kernel)]; kernel_rfl) | (rw [if_neg (by decide +kernel)]; exact ⟨rfl, rfl⟩))
    (fun os started H enc _ => lifted os started H enc)
#print axioms proved
end Go.Proofs.Ytmcoehimjfgakaa.sparseBack
