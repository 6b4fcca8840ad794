/- The developers' package bwt: endsAt, round, Make, Counts, Back; all that the laws ask of package bwt (bwt_any). -/
import Derived.Test.YtjloepepnjcpiaaBwtFol
import Derived.Test.YtjloepepnjcpiaaSaTurn
namespace Go.Proofs.Ytjloepepnjcpiaa
open Go.RowKit

set_option maxRecDepth 100000 in
set_option maxHeartbeats 1600000 in
theorem endsAt_any (A : Option Addr) (n c g cx B wh : Nat) (V X : Nat → Int) (w : World) (hn : n ≤ 4194304) (hw : wh < n) (ho : Its w B A n V) (hX : Lies w g 3 (icells X n)) (hN : NextOf V n X) (r : Bool) (hr : r = true ↔ LeastAt V n wh) :
    Calls Try.prog 23 #[.slice A n c, .slice (some ⟨g, 0, none⟩) n cx, .int .i64 (wh : Int)] w fun e w' => e = .returned (.bool r) ∧ ∃ j, w' = w.drewN j := by
  rw [least_iff hN hw] at hr
  have x0 := hN.int (i := 0) (by omega)
  have l0 := hN.lt (i := 0) (by omega)
  have c0 : w.cell? ⟨g, 0, none⟩ = some (.int .i64 ((nxN X 0 : Nat) : Int)) := by
    rw [hX.cell, icells_at _ _ _ (by omega), x0]
  obtain ⟨ad, rfl, _, cw, _⟩ := ho wh hw
  have bw : (wh : Int) < (n : Int) := by omega
  have b0 : (0 : Int) < (n : Int) := by omega
  have b0' : 0 < n := by omega
  by_cases h0 : nxN X 0 = wh
  · by_cases h1 : n = 1
    · obtain rfl : r = true := hr.2 ⟨h0, .inl h1⟩
      subst h1
      rw [h0] at c0
      have e1 : ((wh : Int) == (wh : Int)) = true := by rw [beq_iff_eq]
      have e2 : (((1 : Nat) : Int) == 1) = true := by rw [beq_iff_eq]; rfl
      clear hr ho hX hN x0 l0 h0
      go_enter Try.func23, Try.ntmps23
      go_wp2_with fail
      go_quiet (fail)
      go_wp2_with fail
      go_ret
      exact ⟨rfl, _, rfl⟩
    · have l1 := hN.lt (i := 1) (by omega)
      have x1 := hN.int (i := 1) (by omega)
      have c1 : w.cell? ⟨g, 1, none⟩ = some (.int .i64 ((nxN X 1 : Nat) : Int)) := by
        rw [hX.cell, icells_at _ _ _ (by omega), x1]
      obtain ⟨ad', e, _, cv, _⟩ := ho (nxN X 1) l1
      cases e
      have hr2 : r = true ↔ V (nxN X 1) ≠ V wh := by
        rw [hr]
        exact ⟨fun h => h.2.resolve_left h1, fun h => ⟨h0, .inr h⟩⟩
      rw [h0] at c0
      generalize nxN X 1 = y at c1 cv l1 hr2
      have by1 : (y : Int) < (n : Int) := by omega
      have b1 : (1 : Int) < (n : Int) := by omega
      have b1' : 1 < n := by omega
      have e1 : ((wh : Int) == (wh : Int)) = true := by rw [beq_iff_eq]
      have e2 : ((n : Int) == 1) = false := by rw [beq_eq_false_iff_ne]; omega
      have e3 : (V y != V wh) = r := by
        rcases r with _ | _
        · have : V y = V wh := Classical.byContradiction fun h => by
            have := hr2.2 h
            cases this
          rw [this]
          simp
        · exact bne_iff_ne.2 (hr2.1 rfl)
      have E3 := Lib.hid e3
      generalize V y = vy at cv E3
      generalize V wh = vw at cw E3
      clear hr hr2 ho hX hN x0 x1 l0 h0 e3
      go_enter Try.func23, Try.ntmps23
      go_wp2_with fail
      go_quiet (fail)
      go_wp2_with fail
      go_ret
      exact ⟨by rw [← E3.out]; rfl, _, rfl⟩
  · obtain rfl : r = false := Bool.eq_false_iff.2 fun h => h0 (hr.1 h).1
    have e1 : (((nxN X 0 : Nat) : Int) == (wh : Int)) = false := by rw [beq_eq_false_iff_ne]; omega
    generalize nxN X 0 = y at c0 e1
    clear hr ho hX hN x0 l0 h0
    go_enter Try.func23, Try.ntmps23
    go_wp2_with fail
    go_quiet (fail)
    go_wp2_with fail
    go_ret
    exact ⟨rfl, _, rfl⟩

/-- what round leaves. -/
def RoundPost (w : World) (n wh : Nat) (V X : Nat → Int) (e : Ending) (w' : World) : Prop :=
  (FullR X n wh → ∃ s, e = .returned (.tuple #[.slice (some ⟨s, 0, none⟩) n n, .int .i64 0]) ∧ Lies w' s 3 (icells (fun k => V (nxs X wh (k + 1))) n)) ∧
  (¬ FullR X n wh → e = .returned (.tuple #[.slice none 0 0, .int .i64 10])) ∧ Below w.heap.size w w'
set_option maxRecDepth 100000 in
set_option maxHeartbeats 1600000 in
theorem bwRound_any (A : Option Addr) (n c g cx wh : Nat) (V X : Nat → Int) (w : World) (hn : n ≤ 4194304) (hw : wh < n) (ho : Its w w.heap.size A n V) (hg : g < w.heap.size) (hX : Lies w g 3 (icells X n)) (hN : NextOf V n X) :
    Calls Try.prog 24 #[.slice A n c, .slice (some ⟨g, 0, none⟩) n cx, .int .i64 (wh : Int)] w (RoundPost w n wh V X) := by
  unfold RoundPost
  have HO := Lib.hid ho
  have HX := Lib.hid hX
  have HN := Lib.hid hN
  obtain ⟨s, za⟩ : ∃ s, w.heap.size = s := ⟨_, rfl⟩
  have hMk := make_ints0 w n hn
  rw [za] at hMk HO hg ⊢
  obtain ⟨wa, hwa⟩ : ∃ wa, w.alloc (.cells (icells (fun _ => 0) n).toArray 3) = wa := ⟨_, rfl⟩
  have k1 : Below s w wa := by rw [← hwa, ← za]; exact (Below.refl _ _).alloc (Nat.le_refl _) _
  have l1 : Lies wa s 3 (icells (fun _ => 0) n) := by rw [← hwa, ← za]; exact lies_new w _ _
  rw [hwa] at hMk
  clear ho hX hN hwa za
  go_enter Try.func24, Try.ntmps24
  go_wp2_with fail
  go_loopw [9, 17] (fun u v wr => ∃ i : Nat, i ≤ n ∧ (∃ at_ : Nat, u = .int .i64 (at_ : Int) ∧ at_ < n ∧ Hid (at_ = nxs X wh i)) ∧ v = .int .i64 (i : Int) ∧ Hid (∃ U, Lies wr s 3 (icells U n) ∧ ∀ k, k < i → U k = V (nxs X wh (k + 1))) ∧ Hid (∀ q, 0 < q → q ≤ i → q < n → nxs X wh q ≠ wh) ∧ Hid (Below s w wr)) (fun _ v _ => n - (intOf v).toNat)
  case atStart => exact ⟨0, Nat.zero_le _, ⟨wh, rfl, hw, Lib.hid rfl⟩, rfl, Lib.hid ⟨_, l1, fun k hk => absurd hk (Nat.not_lt_zero k)⟩, Lib.hid fun q h1 h2 => by omega, Lib.hid k1⟩
  case round =>
    clear l1 k1 hMk
    obtain ⟨i, hi, ⟨at_, rfl, hat, hae⟩, rfl, hU, hQ, hb⟩ := hrel
    by_cases hlt : i < n
    · have hlti : (i : Int) < (n : Int) := by omega
      have hati : (at_ : Int) < (n : Int) := by omega
      have hcx : wr.cell? ⟨g, at_, none⟩ = some (.int .i64 ((nxN X at_ : Nat) : Int)) := by
        rw [(HX.out.below hb.out hg).cell, icells_at _ _ _ hat, HN.out.int hat]
      have hnx := HN.out.lt hat
      have hne : Hid (nxN X at_ = nxs X wh (i + 1)) := Lib.hid (by rw [hae.out]; rfl)
      obtain ⟨y, hy⟩ : ∃ y, nxN X at_ = y := ⟨_, rfl⟩
      rw [hy] at hcx hnx hne
      obtain ⟨ad, rfl, _, hcv, _⟩ := HO.out.below hb.out y hnx
      obtain ⟨U, hL, hU⟩ := hU.out
      have hci : wr.cell? ⟨s, i, none⟩ = some (.int .i64 (U i)) := by
        rw [hL.cell, icells_at _ _ _ hlt]
      have hfi := hL.free i
      have HU2 : Hid (∃ U', Lies (wr.setCell ⟨s, i, none⟩ (.int .i64 (V y))) s 3 (icells U' n) ∧ ∀ k, k < i + 1 → U' k = V (nxs X wh (k + 1))) := Lib.hid ⟨_, by
        have := hL.put i (.int .i64 (V y))
        rw [icells_put] at this
        exact this, fun k hk => by
        by_cases e : k = i
        · rw [if_pos e, e, hne.out]
        · rw [if_neg e, hU k (by omega)]⟩
      have HB2 : Hid (Below s w (wr.setCell ⟨s, i, none⟩ (.int .i64 (V y)))) := Lib.hid (hb.out.setCell (p := ⟨s, i, none⟩) (Nat.le_refl _) _)
      have byn : (y : Int) < (n : Int) := by omega
      generalize V y = vy at hcv HU2 HB2
      generalize U i = ui at hci
      have w1 : IntKind.i64.wrap ((i : Int) + 1) = ((i + 1 : Nat) : Int) := by rw [IntWalk.i64_in _ (by omega)]; omega
      have HI1 : Hid (i + 1 ≤ n) := Lib.hid hlt
      by_cases hyw : y = wh
      · subst hyw
        have e1 : ((y : Int) == (y : Int)) = true := by rw [beq_iff_eq]
        by_cases hl2 : i + 1 < n
        · have HBad : Hid (¬ FullR X n y) := Lib.hid fun h => h (i + 1) (by omega) hl2 hne.out.symm
          generalize i + 1 = i1 at w1 hl2
          have hl3 : (i1 : Int) < (n : Int) := by omega
          clear hU hL hb hQ hne hy hae HU2
          go_wp2_with fail
          go_ret2
          exact ⟨fun h => absurd h HBad.out, fun _ => rfl, HB2.out⟩
        · have HQ2 : Hid (∀ q, 0 < q → q ≤ i + 1 → q < n → nxs X y q ≠ y) := Lib.hid fun q h1 h2 h3 => hQ.out q h1 (by omega) h3
          generalize hi1 : i + 1 = i1 at w1 hl2 HU2 HQ2 hne
          have HI2 := Lib.hid hi1
          have hl3 : ¬ (i1 : Int) < (n : Int) := by omega
          clear hU hL hb hQ hy hae hi1
          go_wp2_with fail
          go_roundw
          case rel => exact ⟨i1, by rw [← HI2.out]; exact HI1.out, ⟨y, rfl, hnx, hne⟩, rfl, HU2, HQ2, HB2⟩
          case measure => simp [intOf]; omega
      · have e1 : ((y : Int) == (wh : Int)) = false := by rw [beq_eq_false_iff_ne]; omega
        have HQ2 : Hid (∀ q, 0 < q → q ≤ i + 1 → q < n → nxs X wh q ≠ wh) := Lib.hid fun q h1 h2 h3 => by
          by_cases e : q = i + 1
          · rw [e, ← hne.out]; exact hyw
          · exact hQ.out q h1 (by omega) h3
        clear hU hL hb hQ hy hae
        go_wp2_with fail
        go_roundw
        case rel => exact ⟨i + 1, by omega, ⟨y, rfl, hnx, hne⟩, by go_num, HU2, HQ2, HB2⟩
        case measure => simp [intOf]; omega
    · have hin : i = n := by omega
      have hge : ¬ (i : Int) < (n : Int) := by omega
      rw [hin] at hU hQ
      have HFull : Hid (FullR X n wh) := Lib.hid fun q h1 h2 => hQ.out q h1 (by omega) h2
      have HF : Hid (Lies wr s 3 (icells (fun k => V (nxs X wh (k + 1))) n)) := Lib.hid (by
        obtain ⟨U, h1, h2⟩ := hU.out
        rw [← icells_congr h2]
        exact h1)
      clear hU hQ hin
      go_wp2_with fail
      go_ret2
      exact ⟨fun _ => ⟨s, rfl, HF.out⟩, fun h => absurd HFull.out h, hb.out⟩

theorem itsR_lies {w : World} {s n : Nat} {U : Nat → Int} (hn : n ≤ 4194304) (h : Lies w s 3 (icells U n)) (hU : ∀ i, i < n → -9223372036854775808 ≤ U i ∧ U i ≤ 9223372036854775807) : ItsR w (some ⟨s, 0, none⟩) n n U := ⟨(fun e => by cases e), Nat.le_refl _, by unfold maxLen; omega, fun k hk => ⟨_, rfl, h.lt, by
  rw [Addr.add_mid, Nat.zero_add, h.cell]
  exact icells_at _ _ _ hk, hU k hk⟩⟩

set_option maxRecDepth 100000 in
set_option maxHeartbeats 1600000 in
theorem bwMake_any (A : Option Addr) (n c : Nat) (V : Nat → Int) (A' : Option Addr) (n' c' : Nat) (S : Nat → Int) (w : World) (hn : n ≤ 4194303) (hn' : n' ≤ 4194303) (ho : ItsR w A n c V) (ho' : ItsR w A' n' c' S) :
    Calls Try.prog 9 #[.slice A n c, .slice A' n' c'] w (BMakePost w n n' V S) := by
  unfold BMakePost
  have HO := Lib.hid ho.2.2.2
  have HTurn := Lib.hid (turn_any A' n' c' S w (by omega) ho'.2.2.2)
  by_cases hnn : n = n'
  · subst hnn
    have e1 : ((n : Int) != (n : Int)) = false := by simp
    clear ho ho'
    go_enter Try.func9, Try.ntmps9
    go_wp2_with fail
    refine HTurn.out.mono ?_
    rintro e w1 ⟨h1, h2, k1⟩
    by_cases hP : IsPerm S n
    · obtain ⟨AR, cR, R, rfl, hT, hR⟩ := h1 hP
      have HP := Lib.hid hP
      have HT := Lib.hid hT
      have HR := Lib.hid hR.2.2.2
      have HK1 := Lib.hid k1
      have HO1 : Hid (Its w1 w1.heap.size A n V) := Lib.hid ((HO.out.below k1).mono_ k1.size)
      obtain ⟨s, za⟩ : ∃ s, w1.heap.size = s := ⟨_, rfl⟩
      have hMk := make_ints0 w1 n (by omega)
      have hsz := k1.size
      rw [za] at hMk HO1 HR hsz
      obtain ⟨wa, hwa⟩ : ∃ wa, w1.alloc (.cells (icells (fun _ => 0) n).toArray 3) = wa := ⟨_, rfl⟩
      have ka : Below s w1 wa := by rw [← hwa, ← za]; exact (Below.refl _ _).alloc (Nat.le_refl _) _
      have l1 : Lies wa s 3 (icells (fun _ => 0) n) := by rw [← hwa, ← za]; exact lies_new w1 _ _
      rw [hwa] at hMk
      have HKa : Hid (Below w.heap.size w wa) := Lib.hid (k1.trans (ka.mono hsz))
      have HOa : Hid (Its wa s A n V) := Lib.hid (HO1.out.below ka)
      have HRa : Hid (Its wa s AR n R) := Lib.hid (HR.out.below ka)
      have HLa := Lib.hid l1
      have HSz := Lib.hid hsz
      clear h1 h2 hP hT hR k1 za hwa ka l1 HO1 HR HK1 HTurn hsz
      go_wp2_with fail
      go_loopw [28] (fun v wr => ∃ p : Nat, p ≤ n ∧ v = .int .i64 (p : Int) ∧ Hid (∃ U, Lies wr s 3 (icells U n) ∧ ∀ i, i < n → aheadN n (S i).toNat < p → U i = V (aheadN n (S i).toNat)) ∧ Hid (Below s wa wr)) (fun v _ => n - (intOf v).toNat)
      case atStart => exact ⟨0, Nat.zero_le _, rfl, Lib.hid ⟨_, HLa.out, fun i _ h => absurd h (Nat.not_lt_zero _)⟩, Lib.hid (Below.refl _ _)⟩
      case round =>
        clear HLa hMk
        obtain ⟨p, hp, rfl, hU, hb⟩ := hrel
        by_cases hlt : p < n
        · have hlti : (p : Int) < (n : Int) := by omega
          obtain ⟨ad, rfl, _, hc, _⟩ := HOa.out.below hb.out p hlt
          obtain ⟨q, hq⟩ : ∃ q, (p + 1) % n = q := ⟨_, rfl⟩
          have hqn : q < n := by rw [← hq]; exact Nat.mod_lt _ (by omega)
          have hqp : aheadN n q = p := by
            unfold aheadN
            by_cases e : p + 1 = n
            · have : q = 0 := by rw [← hq, e, Nat.mod_self]
              rw [if_pos this]
              omega
            · have : q = p + 1 := by rw [← hq, Nat.mod_eq_of_lt (by omega)]
              rw [if_neg (by omega)]
              omega
          obtain ⟨i, hi, hSi⟩ := HP.out.onto hqn
          have hRq : R q = (i : Int) := by
            have := HT.out i hi
            rwa [hSi, Int.toNat_natCast] at this
          obtain ⟨adR, rfl, _, hcR, _⟩ := HRa.out.below hb.out q hqn
          rw [hRq] at hcR
          obtain ⟨U, hL, hU⟩ := hU.out
          have hci : wr.cell? ⟨s, i, none⟩ = some (.int .i64 (U i)) := by
            rw [hL.cell, icells_at _ _ _ hi]
          have hfi := hL.free i
          have HU2 : Hid (∃ U', Lies (wr.setCell ⟨s, i, none⟩ (.int .i64 (V p))) s 3 (icells U' n) ∧ ∀ i, i < n → aheadN n (S i).toNat < p + 1 → U' i = V (aheadN n (S i).toNat)) := Lib.hid ⟨_, by
            have := hL.put i (.int .i64 (V p))
            rw [icells_put] at this
            exact this, fun j hj hlt2 => by
            by_cases e : j = i
            · rw [if_pos e, e, hSi, Int.toNat_natCast, hqp]
            · rw [if_neg e]
              refine hU j hj (Nat.lt_of_le_of_ne (Nat.le_of_lt_succ hlt2) fun e2 => e ?_)
              have hr := HP.out.1 j hj
              have := aheadN_inj (n := n) (p := (S j).toNat) (q := q) (by omega) hqn (by rw [e2, hqp])
              exact HP.out.inj hj hi (by rw [hSi]; omega)⟩
          have HB2 : Hid (Below s wa (wr.setCell ⟨s, i, none⟩ (.int .i64 (V p)))) := Lib.hid (hb.out.setCell (p := ⟨s, i, none⟩) (Nat.le_refl _) _)
          have bqn : (q : Int) < (n : Int) := by omega
          have bin : (i : Int) < (n : Int) := by omega
          have w2 : IntKind.i64.wrap ((p : Int) + 1) = ((p + 1 : Nat) : Int) := by rw [IntWalk.i64_in _ (by omega)]; omega
          have hmod : (((p + 1 : Nat) : Int)).tmod (n : Int) = (q : Int) := by rw [← hq]; rfl
          have w3 : IntKind.i64.wrap (q : Int) = (q : Int) := IntWalk.i64_in _ (by omega)
          have n0 : ¬ n = 0 := by omega
          have n1 : ¬ (n : Int) = 0 := by omega
          have n2 : ((n : Int) == 0) = false := by rw [beq_eq_false_iff_ne]; omega
          have HP1 : Hid (p + 1 ≤ n) := Lib.hid hlt
          generalize V p = vp at hc HU2 HB2
          generalize U i = ui at hci
          generalize hp1 : p + 1 = p1 at w2 hmod HU2 HP1
          have hpp : p < p1 := by omega
          have hpn : p1 ≤ n := HP1.out
          clear hU hL hb hq hqp hSi hRq hp1
          go_wp2_with fail
          go_roundw
          case rel => exact ⟨p1, HP1.out, rfl, HU2, HB2⟩
          case measure => simp [intOf]; omega
        · have hin : p = n := by omega
          have hge : ¬ (p : Int) < (n : Int) := by omega
          rw [hin] at hU
          have HF : Hid (ItsR wr (some ⟨s, 0, none⟩) n n (turnI V n S)) := Lib.hid (by
            obtain ⟨U, h1, h2⟩ := hU.out
            have e : ∀ i, i < n → U i = turnI V n S i := fun i hi => by
              have hr := HP.out.1 i hi
              rw [h2 i hi (aheadN_lt (by omega)), turnI_at (p := (S i).toNat) (by omega)]
            refine itsR_lies (by omega) (by rw [← icells_congr e]; exact h1) fun i hi => ?_
            have hr := HP.out.1 i hi
            rw [turnI_at (p := (S i).toNat) (by omega)]
            exact HOa.out.small _ (aheadN_lt (by omega)))
          have HKr : Hid (Below w.heap.size w wr) := Lib.hid (HKa.out.trans (hb.out.mono HSz.out))
          clear hU hin hb
          go_wp2_with fail
          go_ret2
          exact ⟨fun _ => ⟨_, n, rfl, HF.out⟩, fun h => absurd HP.out h, HKr.out⟩
    · obtain ⟨AR, cR, rfl⟩ := h2 hP
      have HP := Lib.hid hP
      clear h1 h2 hP HTurn
      go_wp2_with fail
      go_ret2
      exact ⟨fun h => absurd h.2 HP.out, fun _ => ⟨none, 0, rfl⟩, k1⟩
  · have e1 : ((n' : Int) != (n : Int)) = true := by rw [bne_iff_ne]; omega
    have e2 : ¬ (n' : Int) = (n : Int) := by omega
    clear ho ho' HTurn
    go_enter Try.func9, Try.ntmps9
    go_wp2_with fail
    go_ret2
    exact ⟨fun h => absurd h.1 hnn, fun _ => ⟨none, 0, rfl⟩, Below.refl _ _⟩

set_option maxRecDepth 100000 in
set_option maxHeartbeats 1600000 in
theorem bwCounts_any (A : Option Addr) (n c : Nat) (V : Nat → Int) (al : Int) (w : World) (hn : n ≤ 4194303) (hal : al ≤ 4194303 ∨ 4194304 < al) (ho : ItsR w A n c V) :
    Calls Try.prog 13 #[.slice A n c, .int .i64 al] w (BCountsPost w n V al) := by
  unfold BCountsPost
  obtain ⟨r, hr⟩ : ∃ r : Bool, r = true ↔ RightS V n al := ⟨@decide _ (Classical.propDecidable _), @decide_eq_true_iff _ (Classical.propDecidable _)⟩
  have HFit := Lib.hid (bwFit_is A n c V al _ w (by omega) ho.2.2.2 r hr)
  have HR := Lib.hid hr
  rcases r with _ | _
  · clear hr ho
    go_enter Try.func13, Try.ntmps13
    go_wp2_with fail
    refine HFit.out.mono ?_
    rintro e w1 ⟨rfl, rfl⟩
    go_wp2_with fail
    go_ret2
    exact ⟨fun h => (by have := HR.out.2 h; cases this), fun _ => ⟨none, 0, rfl⟩, Below.refl _ _⟩
  · have hR := hr.1 rfl
    obtain ⟨m, rfl⟩ : ∃ m : Nat, al = (m : Int) := ⟨al.toNat, by have := hR.1.1; omega⟩
    have hm : m ≤ 4194303 := by have := hR.1.2.1; omega
    have hbe := below_any A n c V m w (by omega) hm ho.2.2.2 hR.2
    obtain ⟨m1, hm1⟩ : ∃ m1, m + 1 = m1 := ⟨_, rfl⟩
    rw [hm1] at hbe
    have HBe := Lib.hid hbe
    have HM := Lib.hid hm1
    clear hr ho hR hbe hm1
    go_enter Try.func13, Try.ntmps13
    go_wp2_with fail
    refine HFit.out.mono ?_
    rintro e w1 ⟨rfl, rfl⟩
    go_wp2_with fail
    refine HBe.out.mono ?_
    rintro e w1 ⟨rfl, h1, h2⟩
    have HF := Lib.hid (And.intro h1 h2)
    clear h1 h2 HBe HFit
    go_wp2_with fail
    go_ret2
    refine ⟨fun _ => ⟨some ⟨w.heap.size, 0, none⟩, m1, ?_, ?_⟩, fun h => absurd (HR.out.1 (by trivial)) h, HF.out.2⟩
    · rw [Int.toNat_natCast, HM.out]
      rfl
    · rw [Int.toNat_natCast, HM.out]
      exact itsR_lies (by have := HM.out; omega) HF.out.1 fun i hi => by
        have := belowI_le V n (i : Int)
        omega

set_option maxRecDepth 100000 in
set_option maxHeartbeats 3200000 in
theorem bwBack_any (A : Option Addr) (n c : Nat) (V : Nat → Int) (wh al : Int) (w : World) (hn : n ≤ 4194303) (hal : al ≤ 4194303 ∨ 4194304 < al) (ho : ItsR w A n c V) :
    Calls Try.prog 15 #[.slice A n c, .int .i64 wh, .int .i64 al] w (BBackPost w n V wh al) := by
  unfold BBackPost
  obtain ⟨r, hr⟩ : ∃ r : Bool, r = true ↔ RightS V n al := ⟨@decide _ (Classical.propDecidable _), @decide_eq_true_iff _ (Classical.propDecidable _)⟩
  have HFit := Lib.hid (bwFit_is A n c V al _ w (by omega) ho.2.2.2 r hr)
  have HR := Lib.hid hr
  obtain ⟨mx, hmx⟩ : ∃ mx : Nat, max (n : Int) 1 = (mx : Int) := ⟨max n 1, by omega⟩
  have hmxn : ((max n 1 : Nat) : Int) = (mx : Int) := by omega
  rw [hmxn]
  rcases r with _ | _
  · clear hr ho
    go_enter Try.func15, Try.ntmps15
    go_wp2_with fail
    refine HFit.out.mono ?_
    rintro e w1 ⟨rfl, rfl⟩
    go_wp2_with fail
    go_ret2
    exact ⟨fun _ => ⟨none, 0, rfl⟩, fun h => (by have := HR.out.2 h; cases this), fun h => (by have := HR.out.2 h; cases this), fun h => (by have := HR.out.2 h; cases this), Below.refl _ _⟩
  · have hR := hr.1 rfl
    have HRt := Lib.hid hR
    by_cases hwh : 0 ≤ wh ∧ wh < (mx : Int)
    · obtain ⟨x, rfl⟩ : ∃ x : Nat, wh = (x : Int) := ⟨wh.toNat, by omega⟩
      have d1 : decide ((x : Int) < 0) = false := decide_eq_false (by omega)
      have d2 : decide ((mx : Int) ≤ (x : Int)) = false := decide_eq_false (by omega)
      have d3 : ¬ (mx : Int) ≤ (x : Int) := by omega
      by_cases h0 : n = 0
      · have e0 : ((n : Int) == 0) = true := by rw [beq_iff_eq]; omega
        have e1 : (n : Int) = 0 := by omega
        have HN0 := Lib.hid h0
        clear hr ho hR hmxn h0 e1
        go_enter Try.func15, Try.ntmps15
        go_wp2_with fail
        refine HFit.out.mono ?_
        rintro e w1 ⟨rfl, rfl⟩
        go_wp2_with fail
        go_ret2
        exact ⟨fun h => absurd ⟨HRt.out, by omega, by omega⟩ h, fun _ _ _ => ⟨none, 0, rfl⟩, fun _ h _ hlt => (by have := HN0.out; omega), fun _ h _ hlt => (by have := HN0.out; omega), Below.refl _ _⟩
      · have e0 : ((n : Int) == 0) = false := by rw [beq_eq_false_iff_ne]; omega
        have e1 : ¬ n = 0 := by omega
        have e2 : ¬ (n : Int) = 0 := by omega
        obtain ⟨m, rfl⟩ : ∃ m : Nat, al = (m : Int) := ⟨al.toNat, by have := hR.1.1; omega⟩
        have hm : m ≤ 4194303 := by have := hR.1.2.1; omega
        have hxn : x < n := by omega
        have HFol := Lib.hid (followers_any A n c V m w (by omega) (by omega) hm ho.2.2.2 hR.2)
        have HO := Lib.hid ho.2.2.2
        obtain ⟨r2, hr2⟩ : ∃ r2 : Bool, r2 = true ↔ LeastAt V n x := ⟨@decide _ (Classical.propDecidable _), @decide_eq_true_iff _ (Classical.propDecidable _)⟩
        have HR2 := Lib.hid hr2
        clear hr ho hR hmxn hr2
        go_enter Try.func15, Try.ntmps15
        go_wp2_with fail
        refine HFit.out.mono ?_
        rintro e w1 ⟨rfl, rfl⟩
        go_wp2_with fail
        refine HFol.out.mono ?_
        rintro e w1 ⟨g, X, rfl, l1, hN, k1⟩
        have HO1 : Hid (Its w1 w1.heap.size A n V) := Lib.hid ((HO.out.below k1).mono_ k1.size)
        have HE := Lib.hid (endsAt_any A n c g n w1.heap.size x V X w1 (by omega) hxn HO1.out l1 hN r2 HR2.out)
        have HL1 := Lib.hid l1
        have HN := Lib.hid hN
        have HK1 := Lib.hid k1
        clear HFit HFol l1 hN k1 HO
        go_wp2_with fail
        refine HE.out.mono ?_
        rintro e w2 ⟨rfl, j, rfl⟩
        clear HE
        rcases r2 with _ | _
        · have HBad : Hid (¬ BackOK V n x) := Lib.hid fun h => by
            have := HR2.out.2 ((HN.out.ok_iff hxn).1 h).1
            cases this
          go_wp2_with fail
          go_ret2
          refine ⟨fun h => absurd ⟨HRt.out, by omega, by omega⟩ h, fun _ hn0 _ => absurd hn0 e1, fun _ h eh hlt hB => ?_, fun _ h eh hlt hB => ⟨none, 0, rfl⟩, below_drewN' HK1.out j⟩
          obtain rfl : x = h := by omega
          exact absurd hB HBad.out
        · have hLe : LeastAt V n x := HR2.out.1 rfl
          have HLe := Lib.hid hLe
          have HRd := Lib.hid (bwRound_any A n c g n x V X (w1.drewN j) (by omega) hxn (HO1.out.below (below_drewN' (Below.refl _ _) j)) HL1.out.lt (HL1.out.drewN j) HN.out)
          have HK2 : Hid (Below w.heap.size w (w1.drewN j)) := Lib.hid (below_drewN' HK1.out j)
          clear hLe HR2
          go_wp2_with fail
          refine HRd.out.mono ?_
          rintro e w3 ⟨h1, h2, k3⟩
          have HK3 : Hid (Below w.heap.size w w3) := Lib.hid (HK2.out.trans (k3.mono HK2.out.size))
          by_cases hF : FullR X n x
          · obtain ⟨s, rfl, l3⟩ := h1 hF
            have HF := Lib.hid hF
            have HG : Hid (ItsR w3 (some ⟨s, 0, none⟩) n n (backT V n x)) := Lib.hid (itsR_lies (by omega) (by
              rw [icells_congr (U' := fun k => V (nxs X x (k + 1))) fun k hk => HN.out.full_list hxn hF hk]
              exact l3) fun k hk => by
                rw [HN.out.full_list hxn hF hk]
                exact HO1.out.small _ (HN.out.nxs_lt hxn _))
            clear h1 h2 k3 hF l3 HRd
            go_wp2_with fail
            go_ret2
            refine ⟨fun h => absurd ⟨HRt.out, by omega, by omega⟩ h, fun _ hn0 _ => absurd hn0 e1, fun _ h eh hlt hB => ?_, fun _ h eh hlt hB => ?_, HK3.out⟩
            · obtain rfl : x = h := by omega
              exact ⟨_, n, rfl, HG.out⟩
            · obtain rfl : x = h := by omega
              exact absurd (HN.out.ok_of hxn HLe.out HF.out) hB
          · have he := h2 hF
            subst he
            have HBad : Hid (¬ BackOK V n x) := Lib.hid fun h => hF ((HN.out.ok_iff hxn).1 h).2
            clear h1 h2 k3 hF HRd
            go_wp2_with fail
            go_ret2
            refine ⟨fun h => absurd ⟨HRt.out, by omega, by omega⟩ h, fun _ hn0 _ => absurd hn0 e1, fun _ h eh hlt hB => ?_, fun _ h eh hlt hB => ⟨none, 0, rfl⟩, HK3.out⟩
            obtain rfl : x = h := by omega
            exact absurd hB HBad.out
    · have hcond : decide (wh < 0) = true ∨ (decide (wh < 0) = false ∧ decide ((mx : Int) ≤ wh) = true) := by
        by_cases h : wh < 0
        · exact .inl (decide_eq_true h)
        · exact .inr ⟨decide_eq_false h, decide_eq_true (by omega)⟩
      have HWh := Lib.hid hwh
      clear hr ho hR hmxn hwh
      rcases hcond with d1 | ⟨d1, d2⟩
      all_goals
        go_enter Try.func15, Try.ntmps15
        go_wp2_with fail
        refine HFit.out.mono ?_
        rintro e w1 ⟨rfl, rfl⟩
        go_wp2_with fail
        go_ret2
        exact ⟨fun _ => ⟨none, 0, rfl⟩, fun _ _ e0 => absurd ⟨by omega, by omega⟩ HWh.out, fun _ h eh hlt => absurd ⟨by omega, by omega⟩ HWh.out, fun _ h eh hlt => absurd ⟨by omega, by omega⟩ HWh.out, Below.refl _ _⟩

theorem bwt_any : BwtI where
  make := fun A n c V A' n' c' S w hn hn' ho ho' => bwMake_any A n c V A' n' c' S w hn hn' ho ho'
  counts := fun A n c V al w hn _ hal ho => bwCounts_any A n c V al w hn hal ho
  back := fun A n c V wh al w hn _ _ hal ho => bwBack_any A n c V wh al w hn hal ho
end Go.Proofs.Ytjloepepnjcpiaa
