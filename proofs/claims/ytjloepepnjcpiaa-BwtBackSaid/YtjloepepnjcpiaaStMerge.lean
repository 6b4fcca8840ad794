/- slices.SortStableFunc over ints: symMergeCmpFunc, any two parts. -/
import Derived.Test.YtjloepepnjcpiaaStSym
import Derived.Deep.DeepCutAuto
import Derived.Deep.CutRange
namespace Go.Proofs.Ytjloepepnjcpiaa
open Go.RowKit
section
variable {w0 w : World} {s n g : Nat} {cb : Array Value} {K : Nat → Int} {D : Nat → Nat}

/-- merging parts of up to k numbers together. -/
def SymGood (w0 : World) (s n g : Nat) (cb : Array Value) (K : Nat → Int) (c k : Nat) : Prop := ∀ (a m b : Nat) (w : World) (D : Nat → Nat), b - a ≤ k → a < m → m < b → b ≤ n → StAt w0 w s n D → SortedN K D a m → SortedN K D m b → Cross D a m b →
    Calls Try.prog 42 #[.slice (some ⟨s, 0, none⟩) n c, .int .i64 (a : Int), .int .i64 (m : Int), .int .i64 (b : Int), .func (.func g) #[] cb] w fun e w' => e = .returned (.tuple #[]) ∧ ∃ D', StAt w0 w' s n D' ∧ Merged K D D' a b

set_option maxRecDepth 100000 in
set_option maxHeartbeats 3200000 in
theorem symBoth_any (c k a m b : Nat) (hn : n ≤ 4194304) (hk : b - a ≤ k + 1) (ham : a + 1 < m) (hmb : m + 1 < b) (hb : b ≤ n) (hC : CmpAt w0 s n g cb K) (ih : SymGood w0 s n g cb K c k) (hS : StAt w0 w s n D) (hs1 : SortedN K D a m) (hs2 : SortedN K D m b) (hc : Cross D a m b) :
    Calls Try.prog 42 #[.slice (some ⟨s, 0, none⟩) n c, .int .i64 (a : Int), .int .i64 (m : Int), .int .i64 (b : Int), .func (.func g) #[] cb] w fun e w' => e = .returned (.tuple #[]) ∧ ∃ D', StAt w0 w' s n D' ∧ Merged K D D' a b := by
  have HSt := Lib.hid hS
  have HIH := Lib.hid ih
  have HSorts := Lib.hid (And.intro hs1 hs2)
  have HCr := Lib.hid hc
  have HC := Lib.hid hC.cmp
  have eg := hC.eg
  obtain ⟨d0, hd0⟩ : ∃ d0 : Int, (m : Int) - (a : Int) = d0 := ⟨_, rfl⟩
  have e0 : IntKind.i64.wrap ((m : Int) - (a : Int)) = d0 := by rw [IntWalk.i64_in _ (by omega)]; omega
  have e00 : (d0 == 1) = false := by rw [beq_eq_false_iff_ne]; omega
  have e01 : ¬ d0 = 1 := by omega
  obtain ⟨d1, hd1⟩ : ∃ d1 : Int, (b : Int) - (m : Int) = d1 := ⟨_, rfl⟩
  have e1 : IntKind.i64.wrap ((b : Int) - (m : Int)) = d1 := by rw [IntWalk.i64_in _ (by omega)]; omega
  have e10 : (d1 == 1) = false := by rw [beq_eq_false_iff_ne]; omega
  have e11 : ¬ d1 = 1 := by omega
  obtain ⟨mid, hmid⟩ : ∃ mid : Nat, mid = (a + b) / 2 := ⟨_, rfl⟩
  have em : ((a : Int) + (b : Int)) / 2 = (mid : Int) := by omega
  have q1 : 2 * mid ≤ a + b := by omega
  have q2 : a + b ≤ 2 * mid + 1 := by omega
  obtain ⟨nn, hnn⟩ : ∃ nn : Nat, mid + m = nn := ⟨_, rfl⟩
  have e2 : IntKind.i64.wrap ((mid : Int) + (m : Int)) = (nn : Int) := by rw [IntWalk.i64_in _ (by omega)]; omega
  obtain ⟨p, hp⟩ : ∃ p : Nat, p + 1 = nn := ⟨nn - 1, by omega⟩
  have e3 : IntKind.i64.wrap ((nn : Int) - 1) = (p : Int) := by rw [IntWalk.i64_in _ (by omega)]; omega
  obtain ⟨lo, hlo⟩ : ∃ lo, symLo a m b mid = lo := ⟨_, rfl⟩
  obtain ⟨hi, hhi⟩ : ∃ hi, symHi m mid = hi := ⟨_, rfl⟩
  have hcase : (mid < m ∧ lo + b = nn ∧ hi = mid) ∨ (¬ mid < m ∧ lo = a ∧ hi = m) := by
    unfold symLo at hlo
    unfold symHi at hhi
    by_cases e : mid < m
    · rw [if_pos e] at hlo hhi
      exact .inl ⟨e, by omega, hhi.symm⟩
    · rw [if_neg e] at hlo hhi
      exact .inr ⟨e, hlo.symm, hhi.symm⟩
  have hlohi : lo ≤ hi := by omega
  have HL := Lib.hid (And.intro hlo hhi)
  have mn : m < n := by omega
  clear hS hs1 hs2 hc hC ih hd0 hd1 hmid hlo hhi
  go_enter Try.func42, Try.ntmps42
  go_upto_if 140 with (fail)
  go_cut [20, 21] from 138 to 146 (fun u v wx => u = .int .i64 (lo : Int) ∧ v = .int .i64 (hi : Int) ∧ wx = w)
  case first =>
    rcases hcase with ⟨g1, g2, g3⟩ | ⟨g1, g2, g3⟩
    · have gz : (mid : Int) < (m : Int) := by omega
      have w1 : IntKind.i64.wrap ((nn : Int) - (b : Int)) = (lo : Int) := by rw [IntWalk.i64_in _ (by omega)]; omega
      go_wp2_with fail
      go_meet
      exact ⟨rfl, by rw [g3], rfl⟩
    · have gz : ¬ (mid : Int) < (m : Int) := by omega
      have gz' : decide ((mid : Int) < (m : Int)) = false := decide_eq_false gz
      go_wp2_with fail
      go_meet
      exact ⟨by rw [g2], by rw [g3], rfl⟩
  case rest =>
    obtain ⟨rfl, rfl, rfl⟩ := hcut
    have HNN := Lib.hid hnn
    have hnp : ∀ c, mid + m - 1 - c = p - c := fun c => by omega
    have HNP := Lib.hid hnp
    have hrange : ∀ c, lo ≤ c → c < hi → a ≤ c ∧ c < m ∧ m ≤ p - c ∧ p - c < b ∧ c ≤ p := fun c h1 h2 => by omega
    have HRg := Lib.hid hrange
    have hhim : hi ≤ mid ∧ hi ≤ m := by omega
    have hpn : p ≤ 2 * n := by omega
    have hnn2 : nn ≤ 2 * n := by omega
    have hmidn : mid < n := by omega
    clear hnp hrange hnn hcase
    go_wp2_with fail
    go_loopw [20, 21] (fun u v wr => ∃ st r : Nat, lo ≤ st ∧ st ≤ r ∧ r ≤ hi ∧ u = .int .i64 (st : Int) ∧ v = .int .i64 (r : Int) ∧ Hid (StAt w0 wr s n D) ∧ Hid (∀ c, lo ≤ c → c < st → AheadOf K (D c) (D (p - c))) ∧ Hid (∀ c, r ≤ c → c < hi → AheadOf K (D (p - c)) (D c))) (fun u v _ => (intOf v).toNat - (intOf u).toNat)
    case atStart => exact ⟨lo, hi, Nat.le_refl _, hlohi, Nat.le_refl _, rfl, rfl, HSt, Lib.hid fun x h1 h2 => by omega, Lib.hid fun x h1 h2 => by omega⟩
    case round =>
      clear HSt
      obtain ⟨st, r, hls, hsr, hrh, rfl, rfl, hSt, hone, htwo⟩ := hrel
      by_cases hlt : st < r
      · have hlti : (st : Int) < (r : Int) := by omega
        obtain ⟨x, hx⟩ : ∃ x : Nat, x = (st + r) / 2 := ⟨_, rfl⟩
        have hx1 : st ≤ x := by omega
        have hx2 : x < r := by omega
        have emx : ((st : Int) + (r : Int)) / 2 = (x : Int) := by omega
        obtain ⟨x1, x2, x3, x4, x5⟩ := HRg.out x (by omega) (by omega)
        obtain ⟨y, hy⟩ : ∃ y : Nat, p - x = y := ⟨_, rfl⟩
        have wy : IntKind.i64.wrap ((p : Int) - (x : Int)) = (y : Int) := by rw [IntWalk.i64_in _ (by omega)]; omega
        rw [hy] at x3 x4
        have xn : x < n := by omega
        have yn : y < n := by omega
        have xni : (x : Int) < (n : Int) := by omega
        have yni : (y : Int) < (n : Int) := by omega
        have c1 := hSt.out.cell yn
        have c2 := hSt.out.cell xn
        obtain ⟨z, hz, hcall⟩ := HC.out wr hSt.out.below _ _ (hSt.out.lt _ yn) (hSt.out.lt _ xn)
        have hcx := HCr.out x y x1 x2 x3 x4
        have HCall : ∀ t, Hid (Calls Try.prog g (#[.int .i64 ((D y : Nat) : Int), .int .i64 ((D x : Nat) : Int)] ++ cb) (wr.drewN t) fun e w' => e = .returned (.int .i64 z) ∧ ∃ q, w' = wr.drewN q) := fun t => Lib.hid ((hcall t).mono fun e w' hh => by
          obtain ⟨h1, q, h2⟩ := hh
          exact ⟨h1, _, h2.trans (World.drewN_drewN _ _ _)⟩)
        have HS2 : Hid (∀ q, StAt w0 (wr.drewN q) s n D) := Lib.hid fun q => hSt.out.drewN q
        by_cases hlv : z < 0
        · have hd : decide (z < 0) = true := decide_eq_true hlv
          have hl2 : Hid (∀ c, x ≤ c → c < hi → AheadOf K (D (p - c)) (D c)) := Lib.hid fun c h1 h2 => by
            obtain ⟨y1, y2, y3, y4, y5⟩ := HRg.out c (by omega) h2
            exact HSorts.out.2.le y3 (show p - c ≤ y by omega) x4 (HSorts.out.1.ge x1 h1 y2 (.inl (hz.1 hlv)))
          clear hz hcall hcx htwo hSt hx hy
          generalize D x = v1 at c2 HCall
          generalize D y = v2 at c1 HCall
          go_wp2_with fail
          go_quiet ((go_at_fn g; with_reducible exact (HCall _).out))
          go_wp2_with fail
          go_roundw
          case rel => exact ⟨st, x, hls, hx1, by omega, rfl, rfl, Lib.hid (HS2.out _), hone, hl2⟩
          case measure => simp [intOf]; omega
        · have hd : decide (z < 0) = false := decide_eq_false hlv
          have hl2 : Hid (∀ c, lo ≤ c → c < x + 1 → AheadOf K (D c) (D (p - c))) := Lib.hid fun c h1 h2 => by
            obtain ⟨y1, y2, y3, y4, y5⟩ := HRg.out c h1 (by omega)
            exact HSorts.out.1.le y1 (show c ≤ x by omega) x2 (HSorts.out.2.ge x3 (show y ≤ p - c by omega) y4 (not_cross_ahead hcx (fun h => hlv (hz.2 h))))
          clear hz hcall hcx hone hSt hx hy
          generalize D x = v1 at c2 HCall
          generalize D y = v2 at c1 HCall
          go_wp2_with fail
          go_quiet ((go_at_fn g; with_reducible exact (HCall _).out))
          go_wp2_with fail
          go_roundw
          case rel => exact ⟨x + 1, r, by omega, hx2, hrh, by go_num, rfl, Lib.hid (HS2.out _), hl2, htwo⟩
          case measure => simp [intOf]; omega
      · obtain rfl : st = r := by omega
        have hP : SymParts K D (rotN D st m (mid + m - st)) a m b mid st (mid + m - st) := sym_parts (by omega) (by omega) q1 q2 HSorts.out.1 HSorts.out.2 HCr.out
          ⟨by rw [HL.out.1]; exact hls, by rw [HL.out.2]; exact hrh, fun c h1 h2 => by
            rw [HNP.out]
            rw [HL.out.1] at h1
            exact hone.out c h1 h2, fun c h1 h2 => by
            rw [HNP.out]
            rw [HL.out.2] at h2
            exact htwo.out c h1 h2⟩
        rw [HNN.out] at hP
        obtain ⟨en, hen⟩ : ∃ en, nn - st = en := ⟨_, rfl⟩
        rw [hen] at hP
        have hord := hP.ord
        have we : IntKind.i64.wrap ((nn : Int) - (st : Int)) = (en : Int) := by rw [IntWalk.i64_in _ (by omega)]; omega
        have HP := Lib.hid hP
        obtain ⟨b1, hb1⟩ : ∃ b1 : Bool, b1 = true ↔ (st < m ∧ m < en) := ⟨decide (st < m ∧ m < en), decide_eq_true_iff⟩
        obtain ⟨b2, hb2⟩ : ∃ b2 : Bool, b2 = true ↔ (a < st ∧ st < mid) := ⟨decide (a < st ∧ st < mid), decide_eq_true_iff⟩
        obtain ⟨b3, hb3⟩ : ∃ b3 : Bool, b3 = true ↔ (mid < en ∧ en < b) := ⟨decide (mid < en ∧ en < b), decide_eq_true_iff⟩
        have HB1 := Lib.hid hb1
        have HB2 := Lib.hid hb2
        have HB3 := Lib.hid hb3
        clear hP hone htwo HSorts HCr HC HRg HNP HL hen hb1 hb2 hb3
        go_upto_region 39 with (fail)
        go_cut [185] from 178 to 185 (fun v wx => v = .bool b1 ∧ wx = wr)
        case first =>
          by_cases h1 : st < m
          · have g1 : (st : Int) < (m : Int) := by omega
            by_cases h2 : m < en
            · have g2 : (m : Int) < (en : Int) := by omega
              obtain rfl : b1 = true := HB1.out.2 ⟨h1, h2⟩
              go_wp2_with fail
              go_meet
              exact ⟨rfl, rfl⟩
            · have g2 : ¬ (m : Int) < (en : Int) := by omega
              obtain rfl : b1 = false := Bool.eq_false_iff.2 fun h => h2 (HB1.out.1 h).2
              go_wp2_with fail
              go_meet
              exact ⟨rfl, rfl⟩
          · have g1 : ¬ (st : Int) < (m : Int) := by omega
            obtain rfl : b1 = false := Bool.eq_false_iff.2 fun h => h1 (HB1.out.1 h).1
            go_wp2_with fail
            go_meet
            exact ⟨rfl, rfl⟩
        case rest =>
          obtain ⟨rfl, rfl⟩ := hcut
          go_upto_if 185 with (fail)
          go_cut [] from 186 to 191 (fun wx => Hid (StAt w0 wx s n (rotN D st m en)))
          case first =>
            rcases b1 with _ | _
            · have hno : st = m ∨ m = en := by
                have : ¬ (st < m ∧ m < en) := fun h => by
                  have := HB1.out.2 h
                  cases this
                omega
              have HSn := hSt
              rw [show StAt w0 wc s n D = StAt w0 wc s n (rotN D st m en) by
                rcases hno with e | e
                · rw [e, rot_none]
                · rw [e, rot_none']] at HSn
              clear hSt
              go_wp2_with fail
              go_meet
              exact HSn
            · have hy := HB1.out.1 rfl
              have HRot := Lib.hid (rotate_any c st m en (.func (.func g) #[] cb) hn hy.1 hy.2 (by omega) hSt.out)
              clear hSt
              go_wp2_with fail
              refine HRot.out.mono ?_
              rintro e w' ⟨rfl, h⟩
              have H := Lib.hid h
              clear h HRot
              go_wp2_with fail
              go_meet
              exact H
          case rest =>
            clear hSt
            have hSt := hcut
            clear hcut HB1
            go_upto_region 41 with (fail)
            go_cut [199] from 192 to 199 (fun v wx => v = .bool b2 ∧ wx = wc)
            case first =>
              by_cases h1 : a < st
              · have g1 : (a : Int) < (st : Int) := by omega
                by_cases h2 : st < mid
                · have g2 : (st : Int) < (mid : Int) := by omega
                  obtain rfl : b2 = true := HB2.out.2 ⟨h1, h2⟩
                  go_wp2_with fail
                  go_meet
                  exact ⟨rfl, rfl⟩
                · have g2 : ¬ (st : Int) < (mid : Int) := by omega
                  obtain rfl : b2 = false := Bool.eq_false_iff.2 fun h => h2 (HB2.out.1 h).2
                  go_wp2_with fail
                  go_meet
                  exact ⟨rfl, rfl⟩
              · have g1 : ¬ (a : Int) < (st : Int) := by omega
                obtain rfl : b2 = false := Bool.eq_false_iff.2 fun h => h1 (HB2.out.1 h).1
                go_wp2_with fail
                go_meet
                exact ⟨rfl, rfl⟩
            case rest =>
              obtain ⟨rfl, rfl⟩ := hcut
              go_upto_if 199 with (fail)
              go_cut [] from 200 to 205 (fun wx => Hid (∃ D2, StAt w0 wx s n D2 ∧ Merged K (rotN D st m en) D2 a mid))
              case first =>
                rcases b2 with _ | _
                · have HSn : Hid (∃ D2, StAt w0 wc s n D2 ∧ Merged K (rotN D st m en) D2 a mid) := Lib.hid ⟨_, hSt.out, HP.out.left fun h => by
                    have := HB2.out.2 h
                    cases this⟩
                  clear hSt
                  go_wp2_with fail
                  go_meet
                  exact HSn
                · have hy := HB2.out.1 rfl
                  have HRec := Lib.hid (HIH.out a st mid wc _ (by omega) hy.1 hy.2 (by omega) hSt.out HP.out.s1 HP.out.s2 HP.out.c1)
                  clear hSt
                  go_wp2_with fail
                  refine HRec.out.mono ?_
                  rintro e w' ⟨rfl, h⟩
                  have H := Lib.hid h
                  clear h HRec
                  go_wp2_with fail
                  go_meet
                  exact H
              case rest =>
                clear hSt HB2
                obtain ⟨D2, hS2, hM2⟩ := hcut.out
                have hSt := Lib.hid hS2
                have HM2 := Lib.hid hM2
                clear hcut hS2 hM2
                go_upto_region 43 with (fail)
                go_cut [213] from 206 to 213 (fun v wx => v = .bool b3 ∧ wx = wc)
                case first =>
                  by_cases h1 : mid < en
                  · have g1 : (mid : Int) < (en : Int) := by omega
                    by_cases h2 : en < b
                    · have g2 : (en : Int) < (b : Int) := by omega
                      obtain rfl : b3 = true := HB3.out.2 ⟨h1, h2⟩
                      go_wp2_with fail
                      go_meet
                      exact ⟨rfl, rfl⟩
                    · have g2 : ¬ (en : Int) < (b : Int) := by omega
                      obtain rfl : b3 = false := Bool.eq_false_iff.2 fun h => h2 (HB3.out.1 h).2
                      go_wp2_with fail
                      go_meet
                      exact ⟨rfl, rfl⟩
                  · have g1 : ¬ (mid : Int) < (en : Int) := by omega
                    obtain rfl : b3 = false := Bool.eq_false_iff.2 fun h => h1 (HB3.out.1 h).1
                    go_wp2_with fail
                    go_meet
                    exact ⟨rfl, rfl⟩
                case rest =>
                  obtain ⟨rfl, rfl⟩ := hcut
                  rcases b3 with _ | _
                  · have HSn : Hid (∃ D', StAt w0 wc s n D' ∧ Merged K D D' a b) := Lib.hid ⟨_, hSt.out, HP.out.done (by omega) HM2.out (HP.out.right HM2.out.1 fun h => by
                      have := HB3.out.2 h
                      cases this)⟩
                    clear hSt
                    go_wp2_with fail
                    go_end0
                    exact ⟨rfl, HSn.out⟩
                  · have hy := HB3.out.1 rfl
                    have HRec := Lib.hid ((HIH.out mid en b wc _ (by omega) hy.1 hy.2 hb hSt.out (HP.out.s3.far fun i h1 _ => HM2.out.1.1 i (by omega)) (HP.out.s4.far fun i h1 _ => HM2.out.1.1 i (by omega)) (fun i j h1 h2 h3 h4 => by
                      rw [HM2.out.1.1 i (by omega), HM2.out.1.1 j (by omega)]
                      exact HP.out.c2 i j h1 h2 h3 h4)).mono (R' := fun e w' => e = .returned (.tuple #[]) ∧ Hid (∃ D', StAt w0 w' s n D' ∧ Merged K D D' a b)) fun e w' hh => ⟨hh.1, Lib.hid (by
                      obtain ⟨D3, h1, h2⟩ := hh.2
                      exact ⟨D3, h1, HP.out.done (by omega) HM2.out h2⟩)⟩)
                    clear hSt
                    go_wp2_with fail
                    refine HRec.out.mono ?_
                    rintro e w' ⟨rfl, h⟩
                    clear HRec
                    go_wp2_with fail
                    go_end0
                    exact ⟨rfl, h.out⟩

theorem sym_good (c : Nat) (hn : n ≤ 4194304) (hC : CmpAt w0 s n g cb K) : ∀ k, SymGood w0 s n g cb K c k
  | 0 => fun a m b w D hk ham hmb _ _ _ _ _ => by omega
  | k + 1 => fun a m b w D hk ham hmb hb hS hs1 hs2 hc => by
    by_cases h1 : m = a + 1
    · exact symLeft_any c a m b hn h1 hmb hb hC hS hs2 hc
    · by_cases h2 : b = m + 1
      · exact symRight_any c a m b hn (by omega) h2 hb hC hS hs1 hc
      · exact symBoth_any c k a m b hn hk (by omega) (by omega) hb hC (sym_good c hn hC k) hS hs1 hs2 hc
end
end Go.Proofs.Ytjloepepnjcpiaa
