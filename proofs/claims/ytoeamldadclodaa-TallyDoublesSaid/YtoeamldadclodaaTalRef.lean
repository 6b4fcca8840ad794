/- The document's functions of layer 16: Doubles, Unlike by looking. -/
import Derived.Test.YtoeamldadclodaaTalMath
import Derived.Test.YtoeamldadclodaaSufTurn
import Derived.Test.YtoeamldadclodaaIntPut
import Derived.Deep.QuietTactic
import Derived.BigQuiet
namespace Go.Proofs.Ytoeamldadclodaa
open Go.RowKit

/-- the doubles, as a row's numbers. -/
def dblI (D L : Nat → Int) (m : Nat) : Nat → Int := fun q => ((dblT D L m q : Nat) : Int)

set_option maxRecDepth 100000 in
set_option maxHeartbeats 3200000 in
theorem refDoubles_any (A AL : Option Addr) (n c cl : Nat) (D L : Nat → Int) (w : World) (hn : n ≤ 4194304) (ho : Its w w.heap.size A n D) (hl : Its w w.heap.size AL n L) :
    Calls Try.prog 9 #[.slice A n c, .slice AL n cl] w fun e w' => ∃ u : Value, e = .returned u ∧ w'.ownsRow w.heap.size 3 1 u n (icells (dblI D L n) n) ∧ Below w.heap.size w w' := by
  have HO := Lib.hid ho
  have HL := Lib.hid hl
  obtain ⟨g, hg⟩ : ∃ g, w.heap.size = g := ⟨_, rfl⟩
  have hMk := make_ints0 w n hn
  rw [hg] at hMk HO HL ⊢
  obtain ⟨wa, hwa⟩ : ∃ wa, w.alloc (.cells (icells (fun _ => 0) n).toArray 3) = wa := ⟨_, rfl⟩
  have ka : Below g w wa := by rw [← hwa, ← hg]; exact (Below.refl _ _).alloc (Nat.le_refl _) _
  have la : Lies wa g 3 (icells (fun _ => 0) n) := by rw [← hwa, ← hg]; exact lies_new w _ _
  rw [hwa] at hMk
  have H0 : Hid (Lies wa g 3 (icells (dblI D L 0) n)) := Lib.hid (by
    rw [icells_congr (U := dblI D L 0) (U' := fun _ => 0) (fun q _ => rfl)]
    exact la)
  have HK := Lib.hid ka
  clear ho hl hg hwa ka la
  go_enter Try.func9, Try.ntmps9
  go_wp2_with fail
  go_loopw [16] (fun v wr => ∃ i : Nat, i ≤ n ∧ v = .int .i64 (i : Int) ∧ Hid (Lies wr g 3 (icells (dblI D L i) n)) ∧ Hid (Below g w wr)) (fun v _ => n - (intOf v).toNat)
  case atStart => exact ⟨0, Nat.zero_le _, rfl, H0, HK⟩
  case round =>
    clear H0 HK hMk
    obtain ⟨i, hi, rfl, hrow, hb⟩ := hrel
    rename World => w1
    by_cases hlt : i < n
    · have hlti : (i : Int) < (n : Int) := by omega
      obtain ⟨z0, hz0⟩ : ∃ z0 : Int, z0 + 1 = (i : Int) := ⟨(i : Int) - 1, by omega⟩
      have w0 : IntKind.i64.wrap ((i : Int) - 1) = z0 := by rw [IntWalk.i64_in _ (by omega)]; omega
      have HZ := Lib.hid hz0
      obtain ⟨ad0, hA, _, ci, _⟩ := HO.out.below hb.out i hlt
      subst hA
      obtain ⟨x, hx⟩ : ∃ x, D i = x := ⟨_, rfl⟩
      rw [hx] at ci
      have HX := Lib.hid hx
      clear hz0 hx
      go_wp2_with fail
      go_loop [8] (fun v => ∃ (m : Nat) (z : Int), m ≤ i ∧ z + 1 = (m : Int) ∧ v = .int .i64 z ∧ Hid (lastD D i = lookB D x m)) (fun v => (intOf v + 1).toNat)
      case atStart => exact ⟨i, z0, Nat.le_refl _, HZ.out, rfl, Lib.hid (by unfold lastD; rw [HX.out])⟩
      case round =>
        obtain ⟨m, z, hm, hz, rfl, hlk⟩ := hrel
        rcases m with _ | q
        · have hz1 : z = -1 := by omega
          subst hz1
          have g1 : decide ((0 : Int) ≤ -1) = false := by decide
          have g2 : decide ((-1 : Int) < 0) = true := by decide
          have HN : Hid (Lies w1 g 3 (icells (dblI D L (i + 1)) n)) := Lib.hid (by
            rw [icells_congr (U := dblI D L (i + 1)) (U' := dblI D L i) (fun q _ => by
              unfold dblI
              rw [dblT_succ, if_neg (by rw [laidT_none (by rw [hlk.out]; show (-1 : Int) < 0; decide)]; omega), Nat.add_zero])]
            exact hrow.out)
          clear hlk hz hrow
          go_wp2_with fail
          go_roundw
          case rel => exact ⟨i + 1, by omega, by go_num, HN, hb⟩
          case measure => simp [intOf]; omega
        · obtain rfl : z = (q : Int) := by omega
          have hqn : q < n := by omega
          have hqi : (q : Int) < (n : Int) := by omega
          obtain ⟨ad', e, _, c1, _⟩ := HO.out.below hb.out q hqn
          cases e
          have g1 : decide ((0 : Int) ≤ (q : Int)) = true := by simp
          have g1' : (0 : Int) ≤ (q : Int) := by omega
          by_cases hx : D q = x
          · have hlast : lastD D i = (q : Int) := by rw [hlk.out, lookB_hit hx]
            rw [hx] at c1
            have g2 : (x != x) = false := by simp
            have g3 : decide ((q : Int) < 0) = false := decide_eq_false (by omega)
            have HLast := Lib.hid hlast
            have hq1 : IntKind.i64.wrap ((q : Int) + 1) = ((q + 1 : Nat) : Int) := by rw [IntWalk.i64_in _ (by omega)]; omega
            have H1 : Hid (lstR L ((q : Int) + 1) ((max (q + 1) (q + 2) : Nat) : Int) (i + 1) = ((q + 1 : Nat) : Int)) := Lib.hid (lstR_at ⟨by omega, by omega, by omega, fun j _ h1 h2 => by
              obtain rfl : j = q + 1 := by omega
              exact Int.le_refl _, fun j h1 h2 _ => by omega⟩)
            have hqi2 : q < i := by omega
            clear hlk hz hlast hx
            go_wp2_with fail
            go_loopw [9, 10] (fun u v wr => ∃ k p : Nat, q + 1 ≤ k ∧ k ≤ i + 1 ∧ q + 1 ≤ p ∧ p ≤ i ∧ u = .int .i64 (p : Int) ∧ v = .int .i64 (k : Int) ∧ Hid (lstR L ((q : Int) + 1) ((max k (q + 2) : Nat) : Int) (i + 1) = (p : Int)) ∧ Hid (Lies wr g 3 (icells (dblI D L i) n)) ∧ Hid (Below g w wr)) (fun _ v _ => i + 1 - (intOf v).toNat)
            case atStart => exact ⟨q + 1, q + 1, Nat.le_refl _, by omega, Nat.le_refl _, by omega, by go_num, by go_num, H1, hrow, hb⟩
            case round =>
              clear H1 hrow hb
              obtain ⟨k, p, hk1, hk2, hp1, hp2, rfl, rfl, hls, hrow, hb⟩ := hrel
              rename World => w2
              by_cases hki : k ≤ i
              · have hkii : (k : Int) ≤ (i : Int) := by omega
                have d0 : decide ((k : Int) ≤ (i : Int)) = true := decide_eq_true hkii
                have hkn : (k : Int) < (n : Int) := by omega
                have hpn : (p : Int) < (n : Int) := by omega
                obtain ⟨al, rfl, _, ck, _⟩ := HL.out.below hb.out k (by omega)
                obtain ⟨al', e, _, cp, _⟩ := HL.out.below hb.out p (by omega)
                cases e
                have HR2 : ∀ t, Hid (Lies (w2.drewN t) g 3 (icells (dblI D L i) n)) := fun t => Lib.hid (hrow.out.drewN t)
                have HB2 : ∀ t, Hid (Below g w (w2.drewN t)) := fun t => Lib.hid (below_drewN' hb.out t)
                have hnew : lstR L ((q : Int) + 1) ((max (k + 1) (q + 2) : Nat) : Int) (i + 1) = if L k < L p then (k : Int) else (p : Int) := by
                  by_cases hkq : k = q + 1
                  · have hpq : p = q + 1 := by
                      have h := hls.out
                      rw [hkq, lstR_at (p := q + 1) ⟨by omega, by omega, by omega, fun j _ h1 h2 => by
                        obtain rfl : j = q + 1 := by omega
                        exact Int.le_refl _, fun j h1 h2 _ => by omega⟩] at h
                      omega
                    rw [hkq, hpq, if_neg (by omega), ← hpq, ← hls.out, hkq]
                    congr 1
                    omega
                  · have h1 : max k (q + 2) = k := by omega
                    have h2 : max (k + 1) (q + 2) = k + 1 := by omega
                    have h := hls.out
                    rw [h1] at h
                    rw [h2, show ((k + 1 : Nat) : Int) = (k : Int) + 1 by omega, lstR_longer (by omega) (by omega), h, Int.toNat_natCast]
                    by_cases hlt2 : L k < L p
                    · rw [if_pos hlt2, if_pos (.inr hlt2)]
                    · rw [if_neg hlt2, if_neg (by omega)]
                have k1 : IntKind.i64.wrap ((k : Int) + 1) = ((k + 1 : Nat) : Int) := by rw [IntWalk.i64_in _ (by omega)]; omega
                by_cases hv : L k < L p
                · have gv : decide (L k < L p) = true := decide_eq_true hv
                  rw [if_pos hv] at hnew
                  have HN := Lib.hid hnew
                  generalize L k = y at ck gv hv
                  generalize L p = yp at cp gv hv
                  clear hnew hls hrow hb
                  go_wp2_with fail
                  go_quiet (fail)
                  go_wp2_with fail
                  go_roundw
                  case rel => exact ⟨k + 1, k, by omega, by omega, hk1, hki, rfl, by go_num, HN, HR2 _, HB2 _⟩
                  case measure => simp [intOf]; omega
                · have gv : decide (L k < L p) = false := decide_eq_false hv
                  rw [if_neg hv] at hnew
                  have HN := Lib.hid hnew
                  generalize L k = y at ck gv hv
                  generalize L p = yp at cp gv hv
                  clear hnew hls hrow hb
                  go_wp2_with fail
                  go_quiet (fail)
                  go_wp2_with fail
                  go_roundw
                  case rel => exact ⟨k + 1, p, by omega, by omega, hp1, hp2, rfl, by go_num, HN, HR2 _, HB2 _⟩
                  case measure => simp [intOf]; omega
              · have d0 : decide ((k : Int) ≤ (i : Int)) = false := decide_eq_false (by omega)
                have d1 : ¬ (k : Int) ≤ (i : Int) := by omega
                have hlaid : laidT D L i = (p : Int) := by
                  have h := hls.out
                  rw [show max k (q + 2) = i + 1 by omega] at h
                  unfold laidT
                  rw [HLast.out, if_neg (by omega), show (i : Int) + 1 = ((i + 1 : Nat) : Int) by omega]
                  exact h
                have hpn : (p : Int) < (n : Int) := by omega
                have hcp : w2.cell? ⟨g, p, none⟩ = some (.int .i64 (dblI D L i p)) := by
                  rw [hrow.out.cell]
                  exact icells_at _ _ _ (by omega)
                have hfp := hrow.out.free p
                have hdl := dblT_le D L i p
                have HNew : Hid (Lies (w2.setCell ⟨g, p, none⟩ (.int .i64 (dblI D L i p + 1))) g 3 (icells (dblI D L (i + 1)) n)) := Lib.hid (by
                  have h := hrow.out.put p (.int .i64 (dblI D L i p + 1))
                  rw [icells_put] at h
                  rw [icells_congr (U := dblI D L (i + 1)) (U' := fun j => if j = p then dblI D L i p + 1 else dblI D L i j) (fun j _ => by
                    unfold dblI
                    rw [dblT_succ, hlaid]
                    by_cases e : j = p
                    · rw [if_pos e, if_pos (by rw [e]), e]; omega
                    · rw [if_neg e, if_neg (by omega), Nat.add_zero])]
                  exact h)
                have HB2 : Hid (Below g w (w2.setCell ⟨g, p, none⟩ (.int .i64 (dblI D L i p + 1)))) := Lib.hid (hb.out.setCell (p := ⟨g, p, none⟩) (Nat.le_refl _) _)
                have hb1 : 0 ≤ dblI D L i p ∧ dblI D L i p ≤ 4194304 := by unfold dblI; omega
                generalize dblI D L i p = y at hcp HNew HB2 hb1
                have y1 : IntKind.i64.wrap (y + 1) = y + 1 := IntWalk.i64_in _ (by omega)
                clear hls hrow hb hlaid hdl
                go_wp2_with fail
                go_roundw
                case rel => exact ⟨i + 1, by omega, by go_num, HNew, HB2⟩
                case measure => simp [intOf]; omega
          · have HL2 : Hid (lastD D i = lookB D x q) := Lib.hid (by rw [hlk.out, lookB_miss hx])
            have g2 : (D q != x) = true := by rw [bne_iff_ne]; exact hx
            obtain ⟨z2, hz2⟩ : ∃ z2 : Int, z2 + 1 = (q : Int) := ⟨(q : Int) - 1, by omega⟩
            have w2 : IntKind.i64.wrap ((q : Int) - 1) = z2 := by rw [IntWalk.i64_in _ (by omega)]; omega
            have HZ2 := Lib.hid hz2
            have hz3 : z2 < (q : Int) := by omega
            have hz4 : -1 ≤ z2 := by omega
            obtain ⟨y, hyy⟩ : ∃ y, D q = y := ⟨_, rfl⟩
            rw [hyy] at c1 g2 hx
            clear hlk hz hz2 hyy
            go_wp2_with fail
            go_round
            case rel => exact ⟨q, z2, by omega, HZ2.out, rfl, HL2⟩
            case measure => simp [intOf]; omega
    · obtain rfl : i = n := by omega
      have hge : ¬ (i : Int) < (i : Int) := by omega
      go_wp2_with fail
      go_ret
      exact ⟨_, rfl, owns_lies hrow.out (Nat.le_refl _) (by rw [icells_length]) (by unfold maxLen; omega), hb.out⟩

theorem unlT_more {D : Nat → Int} {a i n : Nat} (ha : a ≤ i) (hi : i < n) : unlT D a (i + 1) n = unlT D a i n + (if lastD D i < (a : Int) then 1 else 0) := by
  unfold unlT
  by_cases h : lastD D i < (a : Int)
  · rw [if_pos h]
    have e := cnt_add_or (f := fun j => decide (a ≤ j ∧ j < i ∧ lastD D j < (a : Int))) (g := fun j => decide (i ≤ j ∧ j < i + 1)) (fun j => by
      rw [decide_eq_true_iff, decide_eq_true_iff]
      omega) n
    rw [cnt_span i (i + 1) (by omega) n (by omega), Nat.add_sub_cancel_left] at e
    rw [← e]
    refine Pl.cnt_congr fun j _ => ?_
    rw [Bool.eq_iff_iff, Bool.or_eq_true, decide_eq_true_iff, decide_eq_true_iff, decide_eq_true_iff]
    constructor
    · intro g
      by_cases e : j = i
      · exact .inr (by omega)
      · exact .inl (by omega)
    · rintro (g | g)
      · omega
      · obtain rfl : j = i := by omega
        exact ⟨ha, by omega, h⟩
  · rw [if_neg h, Nat.add_zero]
    refine Pl.cnt_congr fun j _ => decide_eq_decide.2 ?_
    constructor
    · intro g
      by_cases e : j = i
      · rw [e] at g; omega
      · omega
    · intro g
      omega
/-- whether one of them is like number i. -/
def SeenT (D : Nat → Int) (a k i : Nat) (r : Bool) : Prop := r = true ↔ ∃ j, a ≤ j ∧ j < k ∧ D j = D i
theorem lastD_seen {D : Nat → Int} {a i : Nat} : (∃ j, a ≤ j ∧ j < i ∧ D j = D i) ↔ ¬ lastD D i < (a : Int) := by
  rcases lastD_is D i with ⟨h1, h2⟩ | ⟨p, h1, h2, h3, h4⟩
  · rw [h1]
    exact ⟨fun ⟨j, g1, g2, g3⟩ => absurd g3 (h2 j g2), fun h => absurd (show (-1 : Int) < (a : Int) by omega) h⟩
  · rw [h2]
    constructor
    · rintro ⟨j, g1, g2, g3⟩
      by_cases e : p < j
      · exact absurd g3 (h4 j e g2)
      · omega
    · intro h
      exact ⟨p, by omega, h1, h3⟩

set_option maxRecDepth 100000 in
set_option maxHeartbeats 3200000 in
theorem refUnlike_any (A : Option Addr) (n c : Nat) (D : Nat → Int) (a b B : Nat) (w : World) (hn : n ≤ 4194304) (hab : a ≤ b) (hb : b ≤ n) (ho : Its w B A n D) :
    Calls Try.prog 16 #[.slice A n c, .int .i64 (a : Int), .int .i64 (b : Int)] w fun e w' => e = .returned (.int .i64 ((unlT D a b n : Nat) : Int)) ∧ ∃ t, w' = w.drewN t := by
  have HO := Lib.hid ho
  have H0 : Hid (0 = unlT D a a n) := Lib.hid (Pl.cnt_zero fun j _ => decide_eq_false (by omega)).symm
  clear ho
  go_enter Try.func16, Try.ntmps16
  go_wp2_with fail
  go_loopw [7, 8] (fun u v wr => ∃ i x t : Nat, a ≤ i ∧ i ≤ b ∧ x ≤ i ∧ u = .int .i64 (x : Int) ∧ v = .int .i64 (i : Int) ∧ Hid (x = unlT D a i n) ∧ wr = w.drewN t) (fun _ v _ => b - (intOf v).toNat)
  case atStart => exact ⟨a, 0, 0, Nat.le_refl _, hab, by omega, rfl, rfl, H0, rfl⟩
  case round =>
    clear H0
    obtain ⟨i, x, t, hai, hib, hxi, rfl, rfl, hx, rfl⟩ := hrel
    by_cases hlt : i < b
    · have hlti : (i : Int) < (b : Int) := by omega
      have hin : (i : Int) < (n : Int) := by omega
      go_wp2_with fail
      go_loopw [9, 10] (fun u v wr => ∃ (k t : Nat) (r : Bool), a ≤ k ∧ k ≤ i ∧ u = .bool r ∧ v = .int .i64 (k : Int) ∧ Hid (SeenT D a k i r) ∧ wr = w.drewN t) (fun _ v _ => i - (intOf v).toNat)
      case atStart => exact ⟨a, t, false, Nat.le_refl _, hai, rfl, rfl, Lib.hid ⟨fun h => (by cases h), fun ⟨j, h1, h2, _⟩ => by omega⟩, rfl⟩
      case round =>
        obtain ⟨k, t, r, hak, hki, rfl, rfl, hr, rfl⟩ := hrel
        by_cases hlt2 : k < i
        · have hlti2 : (k : Int) < (i : Int) := by omega
          have hkn : (k : Int) < (n : Int) := by omega
          obtain ⟨ad, rfl, _, ck, _⟩ := HO.out k (by omega)
          obtain ⟨ad', e, _, ci, _⟩ := HO.out i (by omega)
          cases e
          have k1 : IntKind.i64.wrap ((k : Int) + 1) = ((k + 1 : Nat) : Int) := by rw [IntWalk.i64_in _ (by omega)]; omega
          rcases r with _ | _
          · by_cases hd : D k = D i
            · have hN : Hid (SeenT D a (k + 1) i true) := Lib.hid ⟨fun _ => ⟨k, hak, Nat.lt_succ_self k, hd⟩, fun _ => rfl⟩
              rw [hd] at ck
              have g2 : (D i == D i) = true := by simp
              generalize D i = y at ck ci g2
              clear hr hd
              go_wp2_with fail
              go_quiet (fail)
              go_wp2_with fail
              go_roundw
              case rel => exact ⟨k + 1, _, true, by omega, by omega, rfl, by go_num, hN, rfl⟩
              case measure => simp [intOf]; omega
            · have hN : Hid (SeenT D a (k + 1) i false) := Lib.hid ⟨fun h => (by cases h), fun ⟨j, h1, h2, h3⟩ => hr.out.2 ⟨j, h1, by
                by_cases e : j = k
                · rw [e] at h3; exact absurd h3 hd
                · omega, h3⟩⟩
              have g2 : (D k == D i) = false := by rw [beq_eq_false_iff_ne]; exact hd
              generalize D k = yk at ck g2 hd
              generalize hy : D i = y at ci g2 hd
              clear hr hy
              go_wp2_with fail
              go_quiet (fail)
              go_wp2_with fail
              go_roundw
              case rel => exact ⟨k + 1, _, false, by omega, by omega, rfl, by go_num, hN, rfl⟩
              case measure => simp [intOf]; omega
          · have hN : Hid (SeenT D a (k + 1) i true) := Lib.hid ⟨fun _ => by
              obtain ⟨j, h1, h2, h3⟩ := hr.out.1 rfl
              exact ⟨j, h1, by omega, h3⟩, fun _ => rfl⟩
            clear hr
            go_wp2_with fail
            go_quiet (fail)
            go_wp2_with fail
            go_roundw
            case rel => exact ⟨k + 1, _, true, by omega, by omega, rfl, by go_num, hN, rfl⟩
            case measure => simp [intOf]; omega
        · obtain rfl : k = i := by omega
          have hge : ¬ (k : Int) < (k : Int) := by omega
          have hmore := unlT_more (D := D) hak (show k < n by omega)
          have hs := lastD_seen (D := D) (a := a) (i := k)
          have i1 : IntKind.i64.wrap ((k : Int) + 1) = ((k + 1 : Nat) : Int) := by rw [IntWalk.i64_in _ (by omega)]; omega
          have x1 : IntKind.i64.wrap ((x : Int) + 1) = ((x + 1 : Nat) : Int) := by rw [IntWalk.i64_in _ (by omega)]; omega
          rcases r with _ | _
          · have hl : lastD D k < (a : Int) := by
              apply Classical.byContradiction
              intro h
              have := hr.out.2 (hs.2 h)
              cases this
            rw [if_pos hl] at hmore
            have HN : Hid (x + 1 = unlT D a (k + 1) n) := Lib.hid (by rw [hmore, ← hx.out])
            clear hmore hs hr hx hl
            go_wp2_with fail
            go_roundw
            case rel => exact ⟨k + 1, x + 1, _, by omega, by omega, by omega, by go_num, by go_num, HN, rfl⟩
            case measure => simp [intOf]; omega
          · rw [if_neg (hs.1 (hr.out.1 rfl)), Nat.add_zero] at hmore
            have HN : Hid (x = unlT D a (k + 1) n) := Lib.hid (by rw [hmore]; exact hx.out)
            clear hmore hs hr hx
            go_wp2_with fail
            go_roundw
            case rel => exact ⟨k + 1, x, _, by omega, by omega, by omega, rfl, by go_num, HN, rfl⟩
            case measure => simp [intOf]; omega
    · obtain rfl : i = b := by omega
      have hge : ¬ (i : Int) < (i : Int) := by omega
      go_wp2_with fail
      go_ret
      exact ⟨ret_i64 (by rw [hx.out]), _, rfl⟩
end Go.Proofs.Ytoeamldadclodaa
