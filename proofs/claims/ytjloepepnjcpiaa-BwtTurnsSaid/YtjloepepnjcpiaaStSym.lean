/- slices.SortStableFunc over ints: symMergeCmpFunc, where one of the two parts is one number. -/
import Derived.Test.YtjloepepnjcpiaaStSort
import Derived.Shelf.Abstract
namespace Go.Proofs.Ytjloepepnjcpiaa
open Go.RowKit
section
variable {w0 w : World} {s n g : Nat} {cb : Array Value} {K : Nat → Int} {D : Nat → Nat}

set_option maxRecDepth 100000 in
set_option maxHeartbeats 1600000 in
theorem symLeft_any (c a m b : Nat) (hn : n ≤ 4194304) (hm : m = a + 1) (hmb : m < b) (hb : b ≤ n) (hC : CmpAt w0 s n g cb K) (hS : StAt w0 w s n D) (hs : SortedN K D m b) (hc : Cross D a m b) :
    Calls Try.prog 42 #[.slice (some ⟨s, 0, none⟩) n c, .int .i64 (a : Int), .int .i64 (m : Int), .int .i64 (b : Int), .func (.func g) #[] cb] w fun e w' => e = .returned (.tuple #[]) ∧ ∃ D', StAt w0 w' s n D' ∧ Merged K D D' a b := by
  have HSt := Lib.hid hS
  have HSo := Lib.hid hs
  have HCr := Lib.hid hc
  have HC := Lib.hid hC.cmp
  have HM := Lib.hid hm
  have eg := hC.eg
  have e0 : IntKind.i64.wrap ((m : Int) - (a : Int)) = 1 := by rw [IntWalk.i64_in _ (by omega)]; omega
  have ha : a < n := by omega
  have hmn : m < n := by omega
  have an : (a : Int) < (n : Int) := by omega
  clear hS hs hc hC hm
  go_enter Try.func42, Try.ntmps42
  go_wp2_with fail
  go_loopw [10, 11] (fun u v wr => ∃ i j : Nat, m ≤ i ∧ i ≤ j ∧ j ≤ b ∧ u = .int .i64 (i : Int) ∧ v = .int .i64 (j : Int) ∧ Hid (StAt w0 wr s n D) ∧ Hid (∀ x, m ≤ x → x < i → AheadOf K (D x) (D a)) ∧ Hid (∀ x, j ≤ x → x < b → AheadOf K (D a) (D x))) (fun u v _ => (intOf v).toNat - (intOf u).toNat)
  case atStart => exact ⟨m, b, Nat.le_refl _, by omega, Nat.le_refl _, rfl, rfl, HSt, Lib.hid fun x h1 h2 => by omega, Lib.hid fun x h1 h2 => by omega⟩
  case round =>
    clear HSt
    obtain ⟨i, j, hmi, hij, hjb, rfl, rfl, hSt, hlow, hup⟩ := hrel
    by_cases hlt : i < j
    · have hlti : (i : Int) < (j : Int) := by omega
      obtain ⟨md, hmd⟩ : ∃ md : Nat, md = (i + j) / 2 := ⟨_, rfl⟩
      have hmd1 : i ≤ md := by omega
      have hmd2 : md < j := by omega
      have em : ((i : Int) + (j : Int)) / 2 = (md : Int) := by omega
      have hmd3 : md < n := by omega
      have hmdn : (md : Int) < (n : Int) := by omega
      have c1 := hSt.out.cell hmd3
      have c2 := hSt.out.cell ha
      obtain ⟨z, hz, hcall⟩ := HC.out wr hSt.out.below _ _ (hSt.out.lt _ hmd3) (hSt.out.lt _ ha)
      have hcx := HCr.out a md (Nat.le_refl _) (by rw [HM.out]; omega) (by omega) (by omega)
      have HCall : ∀ t, Hid (Calls Try.prog g (#[.int .i64 ((D md : Nat) : Int), .int .i64 ((D a : Nat) : Int)] ++ cb) (wr.drewN t) fun e w' => e = .returned (.int .i64 z) ∧ ∃ q, w' = wr.drewN q) := fun t => Lib.hid ((hcall t).mono fun e w' hh => by
        obtain ⟨h1, q, h2⟩ := hh
        exact ⟨h1, _, h2.trans (World.drewN_drewN _ _ _)⟩)
      have HS2 : Hid (∀ q, StAt w0 (wr.drewN q) s n D) := Lib.hid fun q => hSt.out.drewN q
      by_cases hlv : z < 0
      · have hd : decide (z < 0) = true := decide_eq_true hlv
        have hl2 : Hid (∀ x, m ≤ x → x < md + 1 → AheadOf K (D x) (D a)) := Lib.hid fun x h1 h2 => SortedN.le HSo.out h1 (show x ≤ md by omega) (by omega) (.inl (hz.1 hlv))
        clear hz hcall hcx hlow hSt hmd
        generalize D md = v1 at c1 HCall
        go_wp2_with fail
        go_quiet ((go_at_fn g; with_reducible exact (HCall _).out))
        go_wp2_with fail
        go_roundw
        case rel => exact ⟨md + 1, j, by omega, by omega, hjb, by go_num, rfl, Lib.hid (HS2.out _), hl2, hup⟩
        case measure => simp [intOf]; omega
      · have hd : decide (z < 0) = false := decide_eq_false hlv
        have hl2 : Hid (∀ x, md ≤ x → x < b → AheadOf K (D a) (D x)) := Lib.hid fun x h1 h2 => SortedN.ge HSo.out (show m ≤ md by omega) h1 h2 (not_cross_ahead hcx (fun h => hlv (hz.2 h)))
        clear hz hcall hcx hup hSt hmd
        generalize D md = v1 at c1 HCall
        go_wp2_with fail
        go_quiet ((go_at_fn g; with_reducible exact (HCall _).out))
        go_wp2_with fail
        go_roundw
        case rel => exact ⟨i, md, hmi, by omega, by omega, rfl, rfl, Lib.hid (HS2.out _), hlow, hl2⟩
        case measure => simp [intOf]; omega
    · obtain rfl : i = j := by omega
      obtain ⟨e, rfl⟩ : ∃ e, i = e + 1 := ⟨i - 1, by have := HM.out; omega⟩
      have w1 : IntKind.i64.wrap (((e + 1 : Nat) : Int) - 1) = (e : Int) := by rw [IntWalk.i64_in _ (by omega)]; omega
      have hae : a ≤ e := by have := HM.out; omega
      have hen : e + 1 ≤ n := by omega
      have hfin : Hid (∀ W, StAt w0 W s n (shL D a (e + 1)) → ∃ D', StAt w0 W s n D' ∧ Merged K D D' a b) := Lib.hid fun W hW => ⟨_, hW, same_shL (by omega) hjb, shL_sorted (by omega) hjb (by rw [← HM.out]; exact HSo.out) (fun x h1 h2 => hlow.out x (by rw [HM.out]; omega) h2) hup.out⟩
      clear hlow hup HC HCr HSo hij
      generalize hx : e + 1 = x at w1 hfin hen hmi
      have HX := Lib.hid hx
      clear hx
      go_wp2_with fail
      go_loopw [13] (fun v wr => ∃ k : Nat, a ≤ k ∧ k ≤ e ∧ v = .int .i64 (k : Int) ∧ Hid (StAt w0 wr s n (shL D a (k + 1)))) (fun v _ => e - (intOf v).toNat)
      case atStart => exact ⟨a, Nat.le_refl _, hae, rfl, Lib.hid (by rw [shL_one]; exact hSt.out)⟩
      case round =>
        clear hSt
        obtain ⟨k, hak, hke, rfl, hSt⟩ := hrel
        by_cases hlt : k < e
        · have hltk : (k : Int) < (e : Int) := by omega
          have hx := HX.out
          have c1 := hSt.out.cell (i := k) (by omega)
          have c2 := hSt.out.cell (i := k + 1) (by omega)
          have f1 := hSt.out.free k
          have f2 := hSt.out.free (k + 1)
          have hsw := Lib.hid (hSt.out.swap (i := k) (j := k + 1) (by omega) (by omega))
          rw [shL_step D hak] at hsw
          have w2 : IntKind.i64.wrap ((k : Int) + 1) = ((k + 1 : Nat) : Int) := by rw [IntWalk.i64_in _ (by omega)]; omega
          have l1 : k < n := by omega
          have l2 : k + 1 < n := by omega
          have lne : k < k + 1 := by omega
          have hke2 : k + 1 ≤ e := hlt
          generalize shL D a (k + 1) k = v1 at c1 hsw
          generalize shL D a (k + 1) (k + 1) = v2 at c2 hsw
          generalize hy : k + 1 = y at c2 f2 hsw w2 l2 lne hke2
          have HY := Lib.hid hy
          have k1 : (k : Int) < (n : Int) := by omega
          have k2 : (y : Int) < (n : Int) := by omega
          clear hSt hx hy
          go_wp2_with fail
          go_big_region
          all_goals go_wp2_with fail
          all_goals go_roundw
          case rel => exact ⟨y, by omega, hke2, rfl, Lib.hid (by
            have := hsw.out.drewN 1
            rw [show k + 2 = y + 1 by have := HY.out; omega] at this
            exact this)⟩
          case measure => simp [intOf]; omega
        · have hk : k = e := by omega
          have hge : ¬ (k : Int) < (e : Int) := by omega
          rw [hk, HX.out] at hSt
          go_wp2_with fail
          refine bodyPost_ret (results_none rfl _ _ _) rfl ?_
          exact ⟨rfl, hfin.out _ hSt.out⟩

set_option maxRecDepth 100000 in
set_option maxHeartbeats 1600000 in
theorem symRight_any (c a m b : Nat) (hn : n ≤ 4194304) (ham : a + 1 < m) (hb1 : b = m + 1) (hb : b ≤ n) (hC : CmpAt w0 s n g cb K) (hS : StAt w0 w s n D) (hs : SortedN K D a m) (hc : Cross D a m b) :
    Calls Try.prog 42 #[.slice (some ⟨s, 0, none⟩) n c, .int .i64 (a : Int), .int .i64 (m : Int), .int .i64 (b : Int), .func (.func g) #[] cb] w fun e w' => e = .returned (.tuple #[]) ∧ ∃ D', StAt w0 w' s n D' ∧ Merged K D D' a b := by
  have HSt := Lib.hid hS
  have HSo := Lib.hid hs
  have HCr := Lib.hid hc
  have HC := Lib.hid hC.cmp
  have HB := Lib.hid hb1
  have eg := hC.eg
  obtain ⟨d0, hd0⟩ : ∃ d0 : Int, (m : Int) - (a : Int) = d0 := ⟨_, rfl⟩
  have e0 : IntKind.i64.wrap ((m : Int) - (a : Int)) = d0 := by rw [IntWalk.i64_in _ (by omega)]; omega
  have e00 : (d0 == 1) = false := by rw [beq_eq_false_iff_ne]; omega
  have e01 : ¬ d0 = 1 := by omega
  have e1 : IntKind.i64.wrap ((b : Int) - (m : Int)) = 1 := by rw [IntWalk.i64_in _ (by omega)]; omega
  have hmn : m < n := by omega
  have mn : (m : Int) < (n : Int) := by omega
  clear hS hs hc hC hb1 hd0
  go_enter Try.func42, Try.ntmps42
  go_wp2_with fail
  go_loopw [14, 15] (fun u v wr => ∃ i j : Nat, a ≤ i ∧ i ≤ j ∧ j ≤ m ∧ u = .int .i64 (i : Int) ∧ v = .int .i64 (j : Int) ∧ Hid (StAt w0 wr s n D) ∧ Hid (∀ x, a ≤ x → x < i → AheadOf K (D x) (D m)) ∧ Hid (∀ x, j ≤ x → x < m → AheadOf K (D m) (D x))) (fun u v _ => (intOf v).toNat - (intOf u).toNat)
  case atStart => exact ⟨a, m, Nat.le_refl _, by omega, Nat.le_refl _, rfl, rfl, HSt, Lib.hid fun x h1 h2 => by omega, Lib.hid fun x h1 h2 => by omega⟩
  case round =>
    clear HSt
    obtain ⟨i, j, hai, hij, hjm, rfl, rfl, hSt, hlow, hup⟩ := hrel
    by_cases hlt : i < j
    · have hlti : (i : Int) < (j : Int) := by omega
      obtain ⟨md, hmd⟩ : ∃ md : Nat, md = (i + j) / 2 := ⟨_, rfl⟩
      have hmd1 : i ≤ md := by omega
      have hmd2 : md < j := by omega
      have em : ((i : Int) + (j : Int)) / 2 = (md : Int) := by omega
      have hmd3 : md < n := by omega
      have hmdn : (md : Int) < (n : Int) := by omega
      have c1 := hSt.out.cell hmd3
      have c2 := hSt.out.cell hmn
      obtain ⟨z, hz, hcall⟩ := HC.out wr hSt.out.below _ _ (hSt.out.lt _ hmn) (hSt.out.lt _ hmd3)
      have hcx := HCr.out md m (by omega) (by omega) (Nat.le_refl _) (by have := HB.out; omega)
      have HCall : ∀ t, Hid (Calls Try.prog g (#[.int .i64 ((D m : Nat) : Int), .int .i64 ((D md : Nat) : Int)] ++ cb) (wr.drewN t) fun e w' => e = .returned (.int .i64 z) ∧ ∃ q, w' = wr.drewN q) := fun t => Lib.hid ((hcall t).mono fun e w' hh => by
        obtain ⟨h1, q, h2⟩ := hh
        exact ⟨h1, _, h2.trans (World.drewN_drewN _ _ _)⟩)
      have HS2 : Hid (∀ q, StAt w0 (wr.drewN q) s n D) := Lib.hid fun q => hSt.out.drewN q
      by_cases hlv : z < 0
      · have hd : decide (z < 0) = true := decide_eq_true hlv
        have hl2 : Hid (∀ x, md ≤ x → x < m → AheadOf K (D m) (D x)) := Lib.hid fun x h1 h2 => SortedN.ge HSo.out (show a ≤ md by omega) h1 h2 (.inl (hz.1 hlv))
        clear hz hcall hcx hup hSt hmd
        generalize D md = v1 at c1 HCall
        go_wp2_with fail
        go_quiet ((go_at_fn g; with_reducible exact (HCall _).out))
        go_wp2_with fail
        go_roundw
        case rel => exact ⟨i, md, hai, by omega, by omega, rfl, rfl, Lib.hid (HS2.out _), hlow, hl2⟩
        case measure => simp [intOf]; omega
      · have hd : decide (z < 0) = false := decide_eq_false hlv
        have hl2 : Hid (∀ x, a ≤ x → x < md + 1 → AheadOf K (D x) (D m)) := Lib.hid fun x h1 h2 => SortedN.le HSo.out h1 (show x ≤ md by omega) (by omega) (not_cross_ahead hcx (fun h => hlv (hz.2 h)))
        clear hz hcall hcx hlow hSt hmd
        generalize D md = v1 at c1 HCall
        go_wp2_with fail
        go_quiet ((go_at_fn g; with_reducible exact (HCall _).out))
        go_wp2_with fail
        go_roundw
        case rel => exact ⟨md + 1, j, by omega, by omega, hjm, by go_num, rfl, Lib.hid (HS2.out _), hl2, hup⟩
        case measure => simp [intOf]; omega
    · obtain rfl : i = j := by omega
      have hfin : Hid (∀ W, StAt w0 W s n (shR D m i) → ∃ D', StAt w0 W s n D' ∧ Merged K D D' a b) := Lib.hid fun W hW => ⟨_, hW, same_shR hai hjm (by have := HB.out; omega), by
        rw [HB.out]
        exact shR_sorted hai hjm HSo.out hlow.out hup.out⟩
      clear hlow hup HC HCr HSo hij
      go_wp2_with fail
      go_loopw [17] (fun v wr => ∃ k : Nat, i ≤ k ∧ k ≤ m ∧ v = .int .i64 (k : Int) ∧ Hid (StAt w0 wr s n (shR D m k))) (fun v _ => (intOf v).toNat)
      case atStart => exact ⟨m, hjm, Nat.le_refl _, rfl, Lib.hid (by rw [shR_one]; exact hSt.out)⟩
      case round =>
        clear hSt
        obtain ⟨k, hik, hkm, rfl, hSt⟩ := hrel
        by_cases hlt : i < k
        · obtain ⟨p, rfl⟩ : ∃ p, k = p + 1 := ⟨k - 1, by omega⟩
          have c1 := hSt.out.cell (i := p + 1) (by omega)
          have c2 := hSt.out.cell (i := p) (by omega)
          have f1 := hSt.out.free (p + 1)
          have f2 := hSt.out.free p
          have hsw := Lib.hid (hSt.out.swap (i := p + 1) (j := p) (by omega) (by omega))
          rw [shR_step D hkm] at hsw
          have w2 : IntKind.i64.wrap (((p + 1 : Nat) : Int) - 1) = (p : Int) := by rw [IntWalk.i64_in _ (by omega)]; omega
          have l1 : p < n := by omega
          have l2 : p + 1 < n := by omega
          have lne : p < p + 1 := by omega
          have hip : i ≤ p := by omega
          have hpm : p ≤ m := by omega
          have hltk : (i : Int) < ((p + 1 : Nat) : Int) := by omega
          generalize shR D m (p + 1) (p + 1) = v1 at c1 hsw
          generalize shR D m (p + 1) p = v2 at c2 hsw
          generalize hy : p + 1 = y at c1 f1 hsw w2 l2 lne hltk
          have HY := Lib.hid hy
          have k1 : (p : Int) < (n : Int) := by omega
          have k2 : (y : Int) < (n : Int) := by omega
          clear hSt hy
          go_wp2_with fail
          go_big_region
          all_goals go_wp2_with fail
          all_goals go_roundw
          case rel => exact ⟨p, hip, hpm, rfl, Lib.hid (hsw.out.drewN 1)⟩
          case measure => simp [intOf]; omega
        · have hk : k = i := by omega
          have hge : ¬ (i : Int) < (k : Int) := by omega
          rw [hk] at hSt
          go_wp2_with fail
          refine bodyPost_ret (results_none rfl _ _ _) rfl ?_
          exact ⟨rfl, hfin.out _ hSt.out⟩
end
end Go.Proofs.Ytjloepepnjcpiaa
