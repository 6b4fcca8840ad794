/- The walk of colophonlaw09.SuffixOrder, over what package suffix answers (SufI). -/
import Derived.Test.YtpcdbmkmpphhiaaSufTails
import Derived.Test.YtpcdbmkmpphhiaaRegionG
namespace Go.Proofs.Ytpcdbmkmpphhiaa
open Go.RowKit

/-- what the operations of the last loop's test leave, at the first place and at a later one. -/
def psiFirst (adr ads : Addr) (L cr cs x : Nat) : Nat → Value → World → Prop
  | 0 => Is (.slice (some adr) L cr)
  | 1 => Is (.slice (some ads) L cs)
  | 2 => Is (.int .i64 0)
  | 3 => Is (.pointer (some ads))
  | 4 => Is (.int .i64 (x : Int))
  | 5 => Is (.pointer (some (adr.add x)))
  | 6 => Is (.int .i64 0)
  | 7 => Is (.int .i64 0)
  | 8 => Is (.bool false)
  | 9 => Is (.bool false)
  | 10 => Is (.int .i64 0)
  | 11 => Is (.bool false)
  | 12 => Is (.bool false)
  | 13 => Is (undef)
  | 14 => Is (undef)
  | 15 => Is (undef)
  | 16 => Is (undef)
  | 17 => Is (undef)
  | 18 => Is (undef)
  | 19 => Is (undef)
  | 20 => Is (undef)
  | 21 => Is (undef)
  | 22 => Is (undef)
  | 23 => Is (undef)
  | 24 => Is (undef)
  | 25 => Is (undef)
  | 26 => Is (undef)
  | 27 => Is (undef)
  | 28 => Is (undef)
  | 29 => Is (undef)
  | 30 => Is (undef)
  | 31 => Is (undef)
  | 32 => Is (undef)
  | 33 => Is (undef)
  | 34 => Is (undef)
  | 35 => Is (undef)
  | 36 => Is (undef)
  | 37 => Is (undef)
  | 38 => Is (undef)
  | 39 => Is (undef)
  | 40 => Is (undef)
  | 41 => Is (undef)
  | 42 => Is (undef)
  | 43 => Is (undef)
  | 44 => Is (undef)
  | 45 => Is (undef)
  | 46 => Is (undef)
  | 47 => Is (undef)
  | 48 => Is (undef)
  | 49 => Is (undef)
  | 50 => Is (undef)
  | 51 => Is (undef)
  | 52 => Is (undef)
  | 53 => Is (.bool false)
  | 54 => Is (.bool false)
  | _ => fun _ _ => True
def psiLater (adr ads adt : Addr) (L cr cs ct x z j : Nat) : Nat → Value → World → Prop
  | 0 => Is (.slice (some adr) L cr)
  | 1 => Is (.slice (some ads) L cs)
  | 2 => Is (.int .i64 ((j : Int) + 1))
  | 3 => Is (.pointer (some ⟨ads.block, ads.off + (j + 1), none⟩))
  | 4 => Is (.int .i64 (x : Int))
  | 5 => Is (.pointer (some (adr.add x)))
  | 6 => Is (.int .i64 ((j : Int) + 1))
  | 7 => Is (.int .i64 ((j : Int) + 1))
  | 8 => Is (.bool false)
  | 9 => Is (.bool false)
  | 10 => Is (.int .i64 ((j : Int) + 1))
  | 11 => Is (.bool true)
  | 12 => Is (.bool true)
  | 13 => Is (.slice (some adt) L ct)
  | 14 => Is (.slice (some ads) L cs)
  | 15 => Is (.int .i64 ((j : Int) + 1))
  | 16 => Is (.int .i64 (j : Int))
  | 17 => Is (.pointer (some (ads.add j)))
  | 18 => Is (.int .i64 (z : Int))
  | 19 => Is (.slice (some ads) L cs)
  | 20 => Is (.int .i64 ((j : Int) + 1))
  | 21 => Is (.pointer (some ⟨ads.block, ads.off + (j + 1), none⟩))
  | 22 => Is (.int .i64 (x : Int))
  | 23 => Is (.bool true)
  | 24 => Is (.bool false)
  | 25 => Is (.bool false)
  | 26 => Is (.slice (some adt) L ct)
  | 27 => Is (.slice (some ads) L cs)
  | 28 => Is (.int .i64 ((j : Int) + 1))
  | 29 => Is (.int .i64 (j : Int))
  | 30 => Is (.pointer (some (ads.add j)))
  | 31 => Is (.int .i64 (z : Int))
  | 32 => Is (.slice (some ads) L cs)
  | 33 => Is (.int .i64 ((j : Int) + 1))
  | 34 => Is (.pointer (some ⟨ads.block, ads.off + (j + 1), none⟩))
  | 35 => Is (.int .i64 (x : Int))
  | 36 => Is (.int .i64 (-1))
  | 37 => Is (.bool false)
  | 38 => Is (.bool false)
  | 39 => Is (.bool false)
  | 40 => Is (.slice (some adt) L ct)
  | 41 => Is (.slice (some ads) L cs)
  | 42 => Is (.int .i64 ((j : Int) + 1))
  | 43 => Is (.pointer (some ⟨ads.block, ads.off + (j + 1), none⟩))
  | 44 => Is (.int .i64 (x : Int))
  | 45 => Is (.slice (some ads) L cs)
  | 46 => Is (.int .i64 ((j : Int) + 1))
  | 47 => Is (.int .i64 (j : Int))
  | 48 => Is (.pointer (some (ads.add j)))
  | 49 => Is (.int .i64 (z : Int))
  | 50 => Is (.int .i64 1)
  | 51 => Is (.bool false)
  | 52 => Is (.bool false)
  | 53 => Is (.bool false)
  | 54 => Is (.bool false)
  | _ => fun _ _ => True
theorem psiFirst_mono {adr ads : Addr} {L cr cs x : Nat} (i : Nat) (v : Value) (w w' : World) (h : psiFirst adr ads L cr cs x i v w) (_hb : Below w.heap.size w w') : psiFirst adr ads L cr cs x i v w' := by
  unfold psiFirst at h ⊢
  split at h <;> exact h
theorem psiLater_mono {adr ads adt : Addr} {L cr cs ct x z j : Nat} (i : Nat) (v : Value) (w w' : World) (h : psiLater adr ads adt L cr cs ct x z j i v w) (_hb : Below w.heap.size w w') : psiLater adr ads adt L cr cs ct x z j i v w' := by
  unfold psiLater at h ⊢
  split at h <;> exact h
theorem wf_nat9 {n : Nat} (h : n ≤ 4194304) : (Lit.int .i64 (n : Int)).wf = true := by simp [Lit.wf, IntKind.min, IntKind.max, IntKind.bits, IntKind.signed]; omega
/-- small numbers. -/
def Small8 (U : Nat → Int) (L : Nat) : Prop := ∀ j, j < L → 0 ≤ U j ∧ U j < 256
theorem Small8.next {U : Nat → Int} {L : Nat} {x : Int} (h : Small8 U L) (h0 : 0 ≤ x) (h1 : x < 256) : Small8 (fun j => if j = L then x else U j) (L + 1) := fun j hj => by
  show 0 ≤ (if j = L then x else U j) ∧ (if j = L then x else U j) < 256
  split
  · exact ⟨h0, h1⟩
  · exact h j (by omega)
theorem icells_next (U : Nat → Int) (L : Nat) (x : Int) : icells U L ++ [.int .i64 x] = icells (fun j => if j = L then x else U j) (L + 1) := by
  rw [icells_snoc, if_pos rfl]
  congr 1
  refine icells_congr fun j hj => ?_
  rw [if_neg (by omega)]

set_option maxRecDepth 100000 in
set_option maxHeartbeats 12800000 in
theorem sufOrder_walk (I : SufI) (A : Option Addr) (n ca : Nat) (V : Nat → Nat) (times : Int) (w : World) (hcm : ca ≤ maxLen) (hA : A = none → n = 0 ∧ ca = 0) (hnc : n ≤ ca) (ho : Bys w w.heap.size A n V) :
    Calls Try.prog 4 #[.slice A n ca, .int .i64 times] w fun e w' => e = .returned (.bool true) ∧ Below w.heap.size w w' := by
  have HI := Lib.hid I
  have HO := Lib.hid ho
  have HF := Lib.hid (sfirst_any I w)
  have hcl : ca ≤ 9223372036854775807 := by unfold maxLen at hcm; omega
  have hA0 := Lib.hid hA
  obtain ⟨K, hK, hK30⟩ : ∃ K : Nat, wrap64 (1 + wrap64 ((IntKind.u64.wrap times).tmod 30)) = (K : Int) ∧ K ≤ 30 := by
    obtain ⟨j, hj, hj6⟩ := turn_k times 30 (by decide) (by decide)
    have hj' : wrap64 ((IntKind.u64.wrap times).tmod 30) = (j : Int) := hj
    refine ⟨j + 1, ?_, by omega⟩
    rw [hj']
    unfold wrap64
    omega
  have HKK := Lib.hid hK
  clear I ho hcm hA hK
  go_enter Try.func4, Try.ntmps4
  go_wp2_with fail
  refine HF.out.mono ?_
  rintro e w0 ⟨rfl, hb0⟩
  clear HF
  obtain ⟨m, hm⟩ : ∃ m, min n 60 = m := ⟨_, rfl⟩
  have hmn : m ≤ n := by omega
  have hm4 : m ≤ 60 := by omega
  have hmc : m ≤ ca := by omega
  go_upto_region 3 with (fail)
  go_cut [5] (fun s5 wx => s5 = .slice A m ca ∧ wx = w0)
  case first =>
    by_cases h4 : (60 : Int) < (n : Int)
    · obtain rfl : m = 60 := by omega
      go_wp2_with fail
      go_meet
      exact ⟨by trivial, by trivial⟩
    · obtain rfl : m = n := by omega
      go_wp2_with fail
      go_meet
      exact ⟨by trivial, by trivial⟩
  case rest =>
    obtain ⟨rfl, rfl⟩ := hcut
    have hmB : Hid (∀ W, Below w.heap.size w W → Bys W w.heap.size A m V) := Lib.hid fun W hW j hj => (HO.out.below hW) j (by omega)
    clear hm
    go_wp2_with fail
    go_loopw [6, 7] (fun u v wr => ∃ (i L : Nat) (U : Nat → Int), i ≤ K ∧ v = .int .i64 (i : Int) ∧ L ≤ 1561 ∧ Hid (Small8 U L) ∧ Hid (wr.ownsRow w.heap.size 3 1 u L (icells U L)) ∧ Below w.heap.size w wr) (fun _ v _ => K - (intOf v).toNat)
    case atStart => exact ⟨0, 0, fun _ => 0, Nat.zero_le _, rfl, by decide, Lib.hid (fun j hj => absurd hj (Nat.not_lt_zero j)), Lib.hid (World.ownsRow_nil _ _ _ _), hb0⟩
    case round =>
      obtain ⟨i, L, U, hi, rfl, hL, HU, hrow, hb⟩ := hrel
      have hbs := hb.size
      obtain ⟨T, ct, rfl, hit⟩ := ItsR.of_own hrow.out (fun j hj => by have := HU.out j hj; omega)
      have hct := hit.2.1
      have hctm : ct ≤ 9223372036854775807 := by have := hit.2.2.1; unfold maxLen at this; omega
      have HIT := Lib.hid hit
      have hKK := HKK.out
      clear hit
      by_cases hgo : i < K ∧ L < 1500
      · obtain ⟨hiK, hL15⟩ := hgo
        have d1 : decide ((i : Int) < (K : Int)) = true := decide_eq_true (by omega)
        have d2 : decide ((L : Int) < 1500) = true := decide_eq_true (by omega)
        go_wp2_with fail
        clear hKK d1 d2
        go_loopw [6, 38] (fun u v wy => ∃ (j : Nat) (U' : Nat → Int), j ≤ m ∧ v = .int .i64 (j : Int) ∧ Hid (Small8 U' (L + j)) ∧ Hid (wy.ownsRow w.heap.size 3 1 u (L + j) (icells U' (L + j))) ∧ Below w.heap.size w wy) (fun _ v _ => m - (intOf v).toNat)
        case atStart => exact ⟨0, U, Nat.zero_le _, rfl, HU, hrow, hb⟩
        case round =>
          rename World => wy
          obtain ⟨j, U', hj, rfl, HU', hrowy, hby⟩ := hrel
          have hbys := hby.size
          by_cases hjm : j < m
          · have hjmi : (j : Int) < (m : Int) := by omega
            obtain ⟨ad, rfl, _, hc, hv⟩ := hmB.out wy hby j hjm
            obtain ⟨x, hx⟩ : ∃ x, V j = x := ⟨_, rfl⟩
            rw [hx] at hc hv
            have hl4 : L + j ≤ 4194304 := by omega
            have w1 : IntKind.i64.wrap (x : Int) = (x : Int) := IntWalk.i64_in _ (by omega)
            have HN := Lib.hid (HU'.out.next (x := (x : Int)) (by omega) (by omega))
            clear hx
            go_wp2_with (at_builtin; refine step_append_int rfl (.tmp 42) (.tmp 45) rfl rfl hrowy.out (x : Int) rfl hbys hl4 ?_; intro v3 w3 hown3 hb3; rw [icells_next] at hown3)
            go_roundw
            case rel => exact ⟨j + 1, _, by omega, by go_num, HN, hown3, hby.trans hb3⟩
            case measure => simp [intOf]; omega
          · obtain rfl : j = m := by omega
            have hl4 : L + j ≤ 4194304 := by omega
            have HN := Lib.hid (HU'.out.next (x := (i : Int) % 3) (by omega) (by omega))
            go_wp2_with (at_builtin; refine step_append_int rfl (.tmp 48) (.tmp 51) rfl rfl hrowy.out ((i : Int) % 3) rfl hbys hl4 ?_; intro v3 w3 hown3 hb3; rw [icells_next] at hown3)
            go_roundw
            case rel => exact ⟨i + 1, L + j + 1, _, by omega, by go_num, by omega, HN, hown3, hby.trans hb3⟩
            case measure => simp [intOf]; omega
      · have hcond : (decide ((i : Int) < (K : Int)) = false ∧ decide (i < K) = false ∧ ¬ i < K) ∨ (i < K ∧ decide (L < 1500) = false ∧ ¬ L < 1500) := by
          by_cases h1 : (i : Int) < (K : Int)
          · exact .inr ⟨by omega, decide_eq_false (by omega), by omega⟩
          · exact .inl ⟨decide_eq_false h1, decide_eq_false (by omega), by omega⟩
        have HR : Hid (RightS U L 256) := Lib.hid ⟨⟨by omega, by omega, by omega⟩, HU.out⟩
        have H1 := Lib.hid (HI.out.array T L ct U 256 wr (by unfold maxLen; omega) (by omega) (by decide) HIT.out.1 HIT.out.2.1 HIT.out.2.2.1 HIT.out.2.2.2)
        clear hgo
        rcases hcond with ⟨d1, d2, d3⟩ | ⟨d1, d2, d3⟩
        all_goals
          go_wp2_with fail
          refine H1.out.mono ?_
          rintro e w1 ⟨h1, _, hb1⟩
          obtain ⟨S, cs, s, rfl, hs, _, his⟩ := h1 HR.out
          have hB1 := hb.trans (hb1.mono hbs)
          have HS := Lib.hid hs
          have HIS := Lib.hid his
          have HT1 := Lib.hid (HIT.out.below hb1)
          have H2 := Lib.hid (HI.out.turn S L cs _ w1 (by omega) his.1 his.2.2.2)
          clear h1 hs his hb1 H1 hKK d1
          clear d2 d3
          go_wp2_with fail
          refine H2.out.mono ?_
          rintro e w2 ⟨h2, _, hb2⟩
          obtain ⟨R, cr, r, rfl, hr, hir⟩ := h2 HS.out.perm
          have hB2 := hB1.trans (hb2.mono hB1.size)
          have HRt := Lib.hid hr
          have HIR := Lib.hid hir
          have HIS2 := Lib.hid (HIS.out.below hb2)
          have HT2 := Lib.hid (HT1.out.below hb2)
          have hcs := HIS2.out.2.1
          have hcr := hir.2.1
          have hcsm : cs ≤ 9223372036854775807 := by have := HIS2.out.2.2.1; unfold maxLen at this; omega
          have hcrm : cr ≤ 9223372036854775807 := by have := hir.2.2.1; unfold maxLen at this; omega
          clear h2 hr hir hb2 H2 HIS HT1
          go_wp2_with fail
          go_loopw [78] (fun v wz => ∃ q : Nat, q ≤ L ∧ v = .int .i64 (q : Int) ∧ Below w2.heap.size w2 wz) (fun v _ => L - (intOf v).toNat)
          case atStart => exact ⟨0, Nat.zero_le _, rfl, Below.refl _ _⟩
          case round =>
            rename World => wz
            obtain ⟨q, hq, rfl, hbr⟩ := hrel
            by_cases hqL : q < L
            · obtain ⟨ads, rfl⟩ : ∃ ad, S = some ad := (HIS2.out.2.2.2 0 (by omega)).elim fun ad h => ⟨ad, h.1⟩
              obtain ⟨adr, rfl⟩ : ∃ ad, R = some ad := (HIR.out.2.2.2 0 (by omega)).elim fun ad h => ⟨ad, h.1⟩
              obtain ⟨adt, rfl⟩ : ∃ ad, T = some ad := (HT2.out.2.2.2 0 (by omega)).elim fun ad h => ⟨ad, h.1⟩
              have HCS : Hid (∀ W, Below w2.heap.size w2 W → ∀ k, k < L → W.cell? (ads.add k) = some (.int .i64 ((s k : Nat) : Int))) := Lib.hid fun W hW k hk => by
                obtain ⟨ad', e, _, h, _⟩ := (HIS2.out.below hW).2.2.2 k hk
                cases e
                exact h
              have HCR : Hid (∀ W, Below w2.heap.size w2 W → ∀ k, k < L → W.cell? (adr.add k) = some (.int .i64 (r k))) := Lib.hid fun W hW k hk => by
                obtain ⟨ad', e, _, h, _⟩ := (HIR.out.below hW).2.2.2 k hk
                cases e
                exact h
              have hxL := HS.out.1 q hqL
              have hrt := HRt.out q hqL
              rw [Int.toNat_natCast] at hrt
              have hqi : (q : Int) < (L : Int) := by omega
              rcases q with _ | j
              · obtain ⟨x, hx⟩ : ∃ x, s 0 = x := ⟨_, rfl⟩
                rw [hx] at hxL hrt
                have hxi : (x : Int) < (L : Int) := by omega
                have HC1 : Hid (∀ W, Below wz.heap.size wz W → W.cell? ads = some (.int .i64 (x : Int))) := Lib.hid fun W hW => by
                  have h := HCS.out W (hbr.trans (hW.mono hbr.size)) 0 hqL
                  rw [addr_add0, hx] at h
                  exact h
                have HC2 : Hid (∀ W, Below wz.heap.size wz W → W.cell? (adr.add x) = some (.int .i64 0)) := Lib.hid fun W hW => by
                  have h := HCR.out W (hbr.trans (hW.mono hbr.size)) x hxL
                  rw [hrt] at h
                  exact h
                clear hx hrt
                go_wp2_with fail
                refine region_then (Ψ := psiFirst adr ads L cr cs x) (by kernel_rfl) (by kernel_rfl) (by kernel_rfl) psiFirst_mono ?_ ?_
                · intro jj hjj a wx hold hB2 hpre
                  have hjn : jj < 55 := hjj
                  have hj' : jj = 0 ∨ jj = 1 ∨ jj = 2 ∨ jj = 3 ∨ jj = 4 ∨ jj = 5 ∨ jj = 6 ∨ jj = 7 ∨ jj = 8 ∨ jj = 9 ∨ jj = 10 ∨ jj = 11 ∨ jj = 12 ∨ jj = 13 ∨ jj = 14 ∨ jj = 15 ∨ jj = 16 ∨ jj = 17 ∨ jj = 18 ∨ jj = 19 ∨ jj = 20 ∨ jj = 21 ∨ jj = 22 ∨ jj = 23 ∨ jj = 24 ∨ jj = 25 ∨ jj = 26 ∨ jj = 27 ∨ jj = 28 ∨ jj = 29 ∨ jj = 30 ∨ jj = 31 ∨ jj = 32 ∨ jj = 33 ∨ jj = 34 ∨ jj = 35 ∨ jj = 36 ∨ jj = 37 ∨ jj = 38 ∨ jj = 39 ∨ jj = 40 ∨ jj = 41 ∨ jj = 42 ∨ jj = 43 ∨ jj = 44 ∨ jj = 45 ∨ jj = 46 ∨ jj = 47 ∨ jj = 48 ∨ jj = 49 ∨ jj = 50 ∨ jj = 51 ∨ jj = 52 ∨ jj = 53 ∨ jj = 54 := by omega
                  clear hjj hjn
                  rcases hj' with rfl | rfl | rfl | rfl | rfl | rfl | rfl | rfl | rfl | rfl | rfl | rfl | rfl | rfl | rfl | rfl | rfl | rfl | rfl | rfl | rfl | rfl | rfl | rfl | rfl | rfl | rfl | rfl | rfl | rfl | rfl | rfl | rfl | rfl | rfl | rfl | rfl | rfl | rfl | rfl | rfl | rfl | rfl | rfl | rfl | rfl | rfl | rfl | rfl | rfl | rfl | rfl | rfl | rfl | rfl
                  · refine wpOp_step rfl (fun K' hK => ?_)
                    have e0 : a.tmps.getD 12 undef = .slice (some adr) L cr := hold 12 (not_dst (by kernel_rfl))
                    have f0 := e0
                    rw [Array.getD_eq_getD_getElem?] at f0
                    clear hold hpre
                    go_simp
                    exact hK _ _ ⟨81, _, rfl, rfl, Below.refl _ _, rfl⟩
                  · refine wpOp_step rfl (fun K' hK => ?_)
                    have e0 : a.tmps.getD 10 undef = .slice (some ads) L cs := hold 10 (not_dst (by kernel_rfl))
                    have f0 := e0
                    rw [Array.getD_eq_getD_getElem?] at f0
                    clear hold hpre
                    go_simp
                    exact hK _ _ ⟨82, _, rfl, rfl, Below.refl _ _, rfl⟩
                  · refine wpOp_step rfl (fun K' hK => ?_)
                    have e0 : a.tmps.getD 14 undef = .int .i64 0 := hold 14 (not_dst (by kernel_rfl))
                    have f0 := e0
                    rw [Array.getD_eq_getD_getElem?] at f0
                    clear hold hpre
                    go_simp
                    exact hK _ _ ⟨83, _, rfl, rfl, Below.refl _ _, rfl⟩
                  · refine wpOp_step rfl (fun K' hK => ?_)
                    have e0 : a.tmps.getD 82 undef = .slice (some ads) L cs := hpre 1 82 (by kernel_rfl) rfl
                    have f0 := e0
                    rw [Array.getD_eq_getD_getElem?] at f0
                    have e1 : a.tmps.getD 83 undef = .int .i64 0 := hpre 2 83 (by kernel_rfl) rfl
                    have f1 := e1
                    rw [Array.getD_eq_getD_getElem?] at f1
                    clear hold hpre
                    go_simp
                    exact hK _ _ ⟨84, _, rfl, rfl, Below.refl _ _, rfl⟩
                  · refine wpOp_step rfl (fun K' hK => ?_)
                    have e0 : a.tmps.getD 84 undef = .pointer (some ads) := hpre 3 84 (by kernel_rfl) rfl
                    have f0 := e0
                    rw [Array.getD_eq_getD_getElem?] at f0
                    have hc1 := HC1.out wx hB2
                    clear hold hpre
                    go_simp
                    exact hK _ _ ⟨85, _, rfl, rfl, Below.refl _ _, rfl⟩
                  · refine wpOp_step rfl (fun K' hK => ?_)
                    have e0 : a.tmps.getD 81 undef = .slice (some adr) L cr := hpre 0 81 (by kernel_rfl) rfl
                    have f0 := e0
                    rw [Array.getD_eq_getD_getElem?] at f0
                    have e1 : a.tmps.getD 85 undef = .int .i64 (x : Int) := hpre 4 85 (by kernel_rfl) rfl
                    have f1 := e1
                    rw [Array.getD_eq_getD_getElem?] at f1
                    clear hold hpre
                    go_simp
                    exact hK _ _ ⟨86, _, rfl, rfl, Below.refl _ _, rfl⟩
                  · refine wpOp_step rfl (fun K' hK => ?_)
                    have e0 : a.tmps.getD 86 undef = .pointer (some (adr.add x)) := hpre 5 86 (by kernel_rfl) rfl
                    have f0 := e0
                    rw [Array.getD_eq_getD_getElem?] at f0
                    have hc2 := HC2.out wx hB2
                    clear hold hpre
                    go_simp
                    exact hK _ _ ⟨87, _, rfl, rfl, Below.refl _ _, rfl⟩
                  · refine wpOp_step rfl (fun K' hK => ?_)
                    have e0 : a.tmps.getD 14 undef = .int .i64 0 := hold 14 (not_dst (by kernel_rfl))
                    have f0 := e0
                    rw [Array.getD_eq_getD_getElem?] at f0
                    clear hold hpre
                    go_simp
                    exact hK _ _ ⟨88, _, rfl, rfl, Below.refl _ _, rfl⟩
                  · refine wpOp_step rfl (fun K' hK => ?_)
                    have e0 : a.tmps.getD 87 undef = .int .i64 0 := hpre 6 87 (by kernel_rfl) rfl
                    have f0 := e0
                    rw [Array.getD_eq_getD_getElem?] at f0
                    have e1 : a.tmps.getD 88 undef = .int .i64 0 := hpre 7 88 (by kernel_rfl) rfl
                    have f1 := e1
                    rw [Array.getD_eq_getD_getElem?] at f1
                    clear hold hpre
                    go_simp
                    exact hK _ _ ⟨89, _, rfl, rfl, Below.refl _ _, rfl⟩
                  · refine wpOp_step rfl (fun K' hK => ?_)
                    have e0 : a.tmps.getD 89 undef = .bool false := hpre 8 89 (by kernel_rfl) rfl
                    have f0 := e0
                    rw [Array.getD_eq_getD_getElem?] at f0
                    clear hold hpre
                    go_simp
                    exact hK _ _ ⟨90, _, rfl, rfl, Below.refl _ _, rfl⟩
                  · refine wpOp_wanted rfl rfl rfl (hpre 9 90 (by kernel_rfl) rfl) (fun K' hK => ?_)
                    have e0 : a.tmps.getD 14 undef = .int .i64 0 := hold 14 (not_dst (by kernel_rfl))
                    have f0 := e0
                    rw [Array.getD_eq_getD_getElem?] at f0
                    clear hold hpre
                    go_simp
                    exact hK _ _ ⟨91, _, rfl, rfl, Below.refl _ _, rfl⟩
                  · refine wpOp_wanted rfl rfl rfl (hpre 9 90 (by kernel_rfl) rfl) (fun K' hK => ?_)
                    have e0 : a.tmps.getD 91 undef = .int .i64 0 := hpre 10 91 (by kernel_rfl) rfl
                    have f0 := e0
                    rw [Array.getD_eq_getD_getElem?] at f0
                    clear hold hpre
                    go_simp
                    exact hK _ _ ⟨92, _, rfl, rfl, Below.refl _ _, rfl⟩
                  · refine wpOp_wanted rfl rfl rfl (hpre 9 90 (by kernel_rfl) rfl) (fun K' hK => ?_)
                    have e0 : a.tmps.getD 92 undef = .bool false := hpre 11 92 (by kernel_rfl) rfl
                    have f0 := e0
                    rw [Array.getD_eq_getD_getElem?] at f0
                    clear hold hpre
                    go_simp
                    exact hK _ _ ⟨93, _, rfl, rfl, Below.refl _ _, rfl⟩
                  · exact wpOp_passed rfl rfl rfl (hpre 12 93 (by kernel_rfl) rfl) (by simp) ⟨94, _, rfl, rfl, Below.refl _ _, rfl⟩
                  · exact wpOp_passed rfl rfl rfl (hpre 12 93 (by kernel_rfl) rfl) (by simp) ⟨95, _, rfl, rfl, Below.refl _ _, rfl⟩
                  · exact wpOp_passed rfl rfl rfl (hpre 12 93 (by kernel_rfl) rfl) (by simp) ⟨96, _, rfl, rfl, Below.refl _ _, rfl⟩
                  · exact wpOp_passed rfl rfl rfl (hpre 12 93 (by kernel_rfl) rfl) (by simp) ⟨97, _, rfl, rfl, Below.refl _ _, rfl⟩
                  · exact wpOp_passed rfl rfl rfl (hpre 12 93 (by kernel_rfl) rfl) (by simp) ⟨98, _, rfl, rfl, Below.refl _ _, rfl⟩
                  · exact wpOp_passed rfl rfl rfl (hpre 12 93 (by kernel_rfl) rfl) (by simp) ⟨99, _, rfl, rfl, Below.refl _ _, rfl⟩
                  · exact wpOp_passed rfl rfl rfl (hpre 12 93 (by kernel_rfl) rfl) (by simp) ⟨100, _, rfl, rfl, Below.refl _ _, rfl⟩
                  · exact wpOp_passed rfl rfl rfl (hpre 12 93 (by kernel_rfl) rfl) (by simp) ⟨101, _, rfl, rfl, Below.refl _ _, rfl⟩
                  · exact wpOp_passed rfl rfl rfl (hpre 12 93 (by kernel_rfl) rfl) (by simp) ⟨102, _, rfl, rfl, Below.refl _ _, rfl⟩
                  · exact wpOp_passed rfl rfl rfl (hpre 12 93 (by kernel_rfl) rfl) (by simp) ⟨103, _, rfl, rfl, Below.refl _ _, rfl⟩
                  · exact wpOp_passed rfl rfl rfl (hpre 12 93 (by kernel_rfl) rfl) (by simp) ⟨104, _, rfl, rfl, Below.refl _ _, rfl⟩
                  · exact wpOp_passed rfl rfl rfl (hpre 12 93 (by kernel_rfl) rfl) (by simp) ⟨105, _, rfl, rfl, Below.refl _ _, rfl⟩
                  · exact wpOp_passed rfl rfl rfl (hpre 12 93 (by kernel_rfl) rfl) (by simp) ⟨106, _, rfl, rfl, Below.refl _ _, rfl⟩
                  · exact wpOp_passed rfl rfl rfl (hpre 25 106 (by kernel_rfl) rfl) (by simp [undef]) ⟨107, _, rfl, rfl, Below.refl _ _, rfl⟩
                  · exact wpOp_passed rfl rfl rfl (hpre 25 106 (by kernel_rfl) rfl) (by simp [undef]) ⟨108, _, rfl, rfl, Below.refl _ _, rfl⟩
                  · exact wpOp_passed rfl rfl rfl (hpre 25 106 (by kernel_rfl) rfl) (by simp [undef]) ⟨109, _, rfl, rfl, Below.refl _ _, rfl⟩
                  · exact wpOp_passed rfl rfl rfl (hpre 25 106 (by kernel_rfl) rfl) (by simp [undef]) ⟨110, _, rfl, rfl, Below.refl _ _, rfl⟩
                  · exact wpOp_passed rfl rfl rfl (hpre 25 106 (by kernel_rfl) rfl) (by simp [undef]) ⟨111, _, rfl, rfl, Below.refl _ _, rfl⟩
                  · exact wpOp_passed rfl rfl rfl (hpre 25 106 (by kernel_rfl) rfl) (by simp [undef]) ⟨112, _, rfl, rfl, Below.refl _ _, rfl⟩
                  · exact wpOp_passed rfl rfl rfl (hpre 25 106 (by kernel_rfl) rfl) (by simp [undef]) ⟨113, _, rfl, rfl, Below.refl _ _, rfl⟩
                  · exact wpOp_passed rfl rfl rfl (hpre 25 106 (by kernel_rfl) rfl) (by simp [undef]) ⟨114, _, rfl, rfl, Below.refl _ _, rfl⟩
                  · exact wpOp_passed rfl rfl rfl (hpre 25 106 (by kernel_rfl) rfl) (by simp [undef]) ⟨115, _, rfl, rfl, Below.refl _ _, rfl⟩
                  · exact wpOp_passed rfl rfl rfl (hpre 25 106 (by kernel_rfl) rfl) (by simp [undef]) ⟨116, _, rfl, rfl, Below.refl _ _, rfl⟩
                  · exact wpOp_passed rfl rfl rfl (hpre 25 106 (by kernel_rfl) rfl) (by simp [undef]) ⟨117, _, rfl, rfl, Below.refl _ _, rfl⟩
                  · exact wpOp_passed rfl rfl rfl (hpre 25 106 (by kernel_rfl) rfl) (by simp [undef]) ⟨118, _, rfl, rfl, Below.refl _ _, rfl⟩
                  · exact wpOp_passed rfl rfl rfl (hpre 12 93 (by kernel_rfl) rfl) (by simp) ⟨119, _, rfl, rfl, Below.refl _ _, rfl⟩
                  · exact wpOp_passed rfl rfl rfl (hpre 12 93 (by kernel_rfl) rfl) (by simp) ⟨120, _, rfl, rfl, Below.refl _ _, rfl⟩
                  · exact wpOp_passed rfl rfl rfl (hpre 39 120 (by kernel_rfl) rfl) (by simp [undef]) ⟨121, _, rfl, rfl, Below.refl _ _, rfl⟩
                  · exact wpOp_passed rfl rfl rfl (hpre 39 120 (by kernel_rfl) rfl) (by simp [undef]) ⟨122, _, rfl, rfl, Below.refl _ _, rfl⟩
                  · exact wpOp_passed rfl rfl rfl (hpre 39 120 (by kernel_rfl) rfl) (by simp [undef]) ⟨123, _, rfl, rfl, Below.refl _ _, rfl⟩
                  · exact wpOp_passed rfl rfl rfl (hpre 39 120 (by kernel_rfl) rfl) (by simp [undef]) ⟨124, _, rfl, rfl, Below.refl _ _, rfl⟩
                  · exact wpOp_passed rfl rfl rfl (hpre 39 120 (by kernel_rfl) rfl) (by simp [undef]) ⟨125, _, rfl, rfl, Below.refl _ _, rfl⟩
                  · exact wpOp_passed rfl rfl rfl (hpre 39 120 (by kernel_rfl) rfl) (by simp [undef]) ⟨126, _, rfl, rfl, Below.refl _ _, rfl⟩
                  · exact wpOp_passed rfl rfl rfl (hpre 39 120 (by kernel_rfl) rfl) (by simp [undef]) ⟨127, _, rfl, rfl, Below.refl _ _, rfl⟩
                  · exact wpOp_passed rfl rfl rfl (hpre 39 120 (by kernel_rfl) rfl) (by simp [undef]) ⟨128, _, rfl, rfl, Below.refl _ _, rfl⟩
                  · exact wpOp_passed rfl rfl rfl (hpre 39 120 (by kernel_rfl) rfl) (by simp [undef]) ⟨129, _, rfl, rfl, Below.refl _ _, rfl⟩
                  · exact wpOp_passed rfl rfl rfl (hpre 39 120 (by kernel_rfl) rfl) (by simp [undef]) ⟨130, _, rfl, rfl, Below.refl _ _, rfl⟩
                  · exact wpOp_passed rfl rfl rfl (hpre 39 120 (by kernel_rfl) rfl) (by simp [undef]) ⟨131, _, rfl, rfl, Below.refl _ _, rfl⟩
                  · exact wpOp_passed rfl rfl rfl (hpre 39 120 (by kernel_rfl) rfl) (by simp [undef]) ⟨132, _, rfl, rfl, Below.refl _ _, rfl⟩
                  · exact wpOp_passed rfl rfl rfl (hpre 12 93 (by kernel_rfl) rfl) (by simp) ⟨133, _, rfl, rfl, Below.refl _ _, rfl⟩
                  · refine wpOp_wanted rfl rfl rfl (hpre 9 90 (by kernel_rfl) rfl) (fun K' hK => ?_)
                    have e0 : a.tmps.getD 93 undef = .bool false := hpre 12 93 (by kernel_rfl) rfl
                    have f0 := e0
                    rw [Array.getD_eq_getD_getElem?] at f0
                    clear hold hpre
                    go_simp
                    exact hK _ _ ⟨134, _, rfl, rfl, Below.refl _ _, rfl⟩
                  · refine wpOp_step rfl (fun K' hK => ?_)
                    have e0 : a.tmps.getD 90 undef = .bool false := hpre 9 90 (by kernel_rfl) rfl
                    have f0 := e0
                    rw [Array.getD_eq_getD_getElem?] at f0
                    have e1 : a.tmps.getD 134 undef = .bool false := hpre 53 134 (by kernel_rfl) rfl
                    have f1 := e1
                    rw [Array.getD_eq_getD_getElem?] at f1
                    clear hold hpre
                    go_simp
                    exact hK _ _ ⟨135, _, rfl, rfl, Below.refl _ _, rfl⟩
                · intro t wx hsz hold hB2 hf
                  have e135 : t.getD 135 undef = .bool false := hf 54 135 rfl
                  obtain ⟨f, hfd, hl⟩ := frame_part hsz 81 55 136 rfl (Nat.le_of_ble_eq_true rfl) (fun d hd => hold d (not_range (lo := 81) (hi := 136) (by kernel_rfl) hd))
                  rw [hfd] at e135
                  have hBx := hbr.trans (hB2.mono hbr.size)
                  clear hold hf hfd hsz
                  subst hl
                  simp only [List.take_succ_cons, List.take_zero, List.drop_succ_cons, List.drop_zero, List.range'_succ, List.range'_zero, List.map_cons, List.map_nil, List.cons_append, List.nil_append, Nat.reduceAdd, e135]
                  clear e135
                  go_wp2_with fail
                  go_roundw
                  case rel => exact ⟨1, by omega, by go_num, hBx⟩
                  case measure => simp [intOf]; omega
              · obtain ⟨x, hx⟩ : ∃ x, s (j + 1) = x := ⟨_, rfl⟩
                obtain ⟨z, hz⟩ : ∃ z, s j = z := ⟨_, rfl⟩
                have hzL := HS.out.1 j (by omega)
                have hlt := HS.out.2 j (j + 1) (by omega) hqL
                rw [hx] at hxL hrt hlt
                rw [hz] at hzL hlt
                have hxi : (x : Int) < (L : Int) := by omega
                have hzi : (z : Int) < (L : Int) := by omega
                have hji : (j : Int) < (L : Int) := by omega
                have HC1 : Hid (∀ W, Below wz.heap.size wz W → W.cell? ⟨ads.block, ads.off + (j + 1), none⟩ = some (.int .i64 (x : Int))) := Lib.hid fun W hW => by
                  have h := HCS.out W (hbr.trans (hW.mono hbr.size)) (j + 1) hqL
                  rw [hx, show ads.add (j + 1) = ⟨ads.block, ads.off + (j + 1), none⟩ by simp [Addr.add]] at h
                  exact h
                have HC3 : Hid (∀ W, Below wz.heap.size wz W → W.cell? (ads.add j) = some (.int .i64 (z : Int))) := Lib.hid fun W hW => by
                  have h := HCS.out W (hbr.trans (hW.mono hbr.size)) j (by omega)
                  rw [hz] at h
                  exact h
                have HC2 : Hid (∀ W, Below wz.heap.size wz W → W.cell? (adr.add x) = some (.int .i64 ((j : Int) + 1))) := Lib.hid fun W hW => by
                  have h := HCR.out W (hbr.trans (hW.mono hbr.size)) x hxL
                  rw [hrt] at h
                  exact h
                have HLe : Hid (∀ W, Below wz.heap.size wz W → Hid (Calls Try.prog 15 #[.slice (some adt) L ct, .int .i64 (z : Int), .int .i64 (x : Int)] W fun e w' => e = .returned (.bool true) ∧ Below W.heap.size W w')) := Lib.hid fun W hW => Lib.hid (refLess_is (some adt) L ct U z x W.heap.size W (by unfold maxLen; omega) (by omega) (by omega) (HT2.out.below (hbr.trans (hW.mono hbr.size))).2.2.2 true ⟨fun _ => hlt, fun _ => rfl⟩)
                have HL1 : Hid (∀ W, Below wz.heap.size wz W → Hid (Calls Try.prog 16 #[.slice (some adt) L ct, .int .i64 (z : Int), .int .i64 (x : Int)] W fun e w' => e = .returned (.int .i64 (-1)) ∧ Below W.heap.size W w')) := Lib.hid fun W hW => Lib.hid (by
                  have hT := HT2.out.below (hbr.trans (hW.mono hbr.size))
                  have h := HI.out.least (some adt) L ct U (z : Int) (x : Int) W (by omega) (wf_nat9 (by omega)) (wf_nat9 (by omega)) hT.1 hT.2.1 hT.2.2.2
                  rwa [leastI_less hzL hxL hlt] at h)
                have HL2 : Hid (∀ W, Below wz.heap.size wz W → Hid (Calls Try.prog 16 #[.slice (some adt) L ct, .int .i64 (x : Int), .int .i64 (z : Int)] W fun e w' => e = .returned (.int .i64 1) ∧ Below W.heap.size W w')) := Lib.hid fun W hW => Lib.hid (by
                  have hT := HT2.out.below (hbr.trans (hW.mono hbr.size))
                  have h := HI.out.least (some adt) L ct U (x : Int) (z : Int) W (by omega) (wf_nat9 (by omega)) (wf_nat9 (by omega)) hT.1 hT.2.1 hT.2.2.2
                  rwa [leastI_more hxL hzL hlt] at h)
                have hwj : IntKind.i64.wrap ((j : Int) + 1 - 1) = (j : Int) := by rw [IntWalk.i64_in _ (by omega)]; omega
                have hwj2 : IntKind.i64.wrap (j : Int) = (j : Int) := IntWalk.i64_in _ (by omega)
                have hj1 : (j : Int) + 1 < (L : Int) := by omega
                have hj0 : decide ((0 : Int) < (j : Int) + 1) = true := decide_eq_true (by omega)
                clear hx hz hrt hlt
                go_wp2_with fail
                refine region_then (Ψ := psiLater adr ads adt L cr cs ct x z j) (by kernel_rfl) (by kernel_rfl) (by kernel_rfl) psiLater_mono ?_ ?_
                · intro jj hjj a wx hold hB2 hpre
                  have hjn : jj < 55 := hjj
                  have hj' : jj = 0 ∨ jj = 1 ∨ jj = 2 ∨ jj = 3 ∨ jj = 4 ∨ jj = 5 ∨ jj = 6 ∨ jj = 7 ∨ jj = 8 ∨ jj = 9 ∨ jj = 10 ∨ jj = 11 ∨ jj = 12 ∨ jj = 13 ∨ jj = 14 ∨ jj = 15 ∨ jj = 16 ∨ jj = 17 ∨ jj = 18 ∨ jj = 19 ∨ jj = 20 ∨ jj = 21 ∨ jj = 22 ∨ jj = 23 ∨ jj = 24 ∨ jj = 25 ∨ jj = 26 ∨ jj = 27 ∨ jj = 28 ∨ jj = 29 ∨ jj = 30 ∨ jj = 31 ∨ jj = 32 ∨ jj = 33 ∨ jj = 34 ∨ jj = 35 ∨ jj = 36 ∨ jj = 37 ∨ jj = 38 ∨ jj = 39 ∨ jj = 40 ∨ jj = 41 ∨ jj = 42 ∨ jj = 43 ∨ jj = 44 ∨ jj = 45 ∨ jj = 46 ∨ jj = 47 ∨ jj = 48 ∨ jj = 49 ∨ jj = 50 ∨ jj = 51 ∨ jj = 52 ∨ jj = 53 ∨ jj = 54 := by omega
                  clear hjj hjn
                  rcases hj' with rfl | rfl | rfl | rfl | rfl | rfl | rfl | rfl | rfl | rfl | rfl | rfl | rfl | rfl | rfl | rfl | rfl | rfl | rfl | rfl | rfl | rfl | rfl | rfl | rfl | rfl | rfl | rfl | rfl | rfl | rfl | rfl | rfl | rfl | rfl | rfl | rfl | rfl | rfl | rfl | rfl | rfl | rfl | rfl | rfl | rfl | rfl | rfl | rfl | rfl | rfl | rfl | rfl | rfl | rfl
                  · refine wpOp_step rfl (fun K' hK => ?_)
                    have e0 : a.tmps.getD 12 undef = .slice (some adr) L cr := hold 12 (not_dst (by kernel_rfl))
                    have f0 := e0
                    rw [Array.getD_eq_getD_getElem?] at f0
                    clear hold hpre
                    go_simp
                    exact hK _ _ ⟨81, _, rfl, rfl, Below.refl _ _, rfl⟩
                  · refine wpOp_step rfl (fun K' hK => ?_)
                    have e0 : a.tmps.getD 10 undef = .slice (some ads) L cs := hold 10 (not_dst (by kernel_rfl))
                    have f0 := e0
                    rw [Array.getD_eq_getD_getElem?] at f0
                    clear hold hpre
                    go_simp
                    exact hK _ _ ⟨82, _, rfl, rfl, Below.refl _ _, rfl⟩
                  · refine wpOp_step rfl (fun K' hK => ?_)
                    have e0 : a.tmps.getD 14 undef = .int .i64 ((j : Int) + 1) := hold 14 (not_dst (by kernel_rfl))
                    have f0 := e0
                    rw [Array.getD_eq_getD_getElem?] at f0
                    clear hold hpre
                    go_simp
                    exact hK _ _ ⟨83, _, rfl, rfl, Below.refl _ _, rfl⟩
                  · refine wpOp_step rfl (fun K' hK => ?_)
                    have e0 : a.tmps.getD 82 undef = .slice (some ads) L cs := hpre 1 82 (by kernel_rfl) rfl
                    have f0 := e0
                    rw [Array.getD_eq_getD_getElem?] at f0
                    have e1 : a.tmps.getD 83 undef = .int .i64 ((j : Int) + 1) := hpre 2 83 (by kernel_rfl) rfl
                    have f1 := e1
                    rw [Array.getD_eq_getD_getElem?] at f1
                    clear hold hpre
                    go_simp
                    exact hK _ _ ⟨84, _, rfl, rfl, Below.refl _ _, rfl⟩
                  · refine wpOp_step rfl (fun K' hK => ?_)
                    have e0 : a.tmps.getD 84 undef = .pointer (some ⟨ads.block, ads.off + (j + 1), none⟩) := hpre 3 84 (by kernel_rfl) rfl
                    have f0 := e0
                    rw [Array.getD_eq_getD_getElem?] at f0
                    have hc1 := HC1.out wx hB2
                    clear hold hpre
                    go_simp
                    exact hK _ _ ⟨85, _, rfl, rfl, Below.refl _ _, rfl⟩
                  · refine wpOp_step rfl (fun K' hK => ?_)
                    have e0 : a.tmps.getD 81 undef = .slice (some adr) L cr := hpre 0 81 (by kernel_rfl) rfl
                    have f0 := e0
                    rw [Array.getD_eq_getD_getElem?] at f0
                    have e1 : a.tmps.getD 85 undef = .int .i64 (x : Int) := hpre 4 85 (by kernel_rfl) rfl
                    have f1 := e1
                    rw [Array.getD_eq_getD_getElem?] at f1
                    clear hold hpre
                    go_simp
                    exact hK _ _ ⟨86, _, rfl, rfl, Below.refl _ _, rfl⟩
                  · refine wpOp_step rfl (fun K' hK => ?_)
                    have e0 : a.tmps.getD 86 undef = .pointer (some (adr.add x)) := hpre 5 86 (by kernel_rfl) rfl
                    have f0 := e0
                    rw [Array.getD_eq_getD_getElem?] at f0
                    have hc2 := HC2.out wx hB2
                    clear hold hpre
                    go_simp
                    exact hK _ _ ⟨87, _, rfl, rfl, Below.refl _ _, rfl⟩
                  · refine wpOp_step rfl (fun K' hK => ?_)
                    have e0 : a.tmps.getD 14 undef = .int .i64 ((j : Int) + 1) := hold 14 (not_dst (by kernel_rfl))
                    have f0 := e0
                    rw [Array.getD_eq_getD_getElem?] at f0
                    clear hold hpre
                    go_simp
                    exact hK _ _ ⟨88, _, rfl, rfl, Below.refl _ _, rfl⟩
                  · refine wpOp_step rfl (fun K' hK => ?_)
                    have e0 : a.tmps.getD 87 undef = .int .i64 ((j : Int) + 1) := hpre 6 87 (by kernel_rfl) rfl
                    have f0 := e0
                    rw [Array.getD_eq_getD_getElem?] at f0
                    have e1 : a.tmps.getD 88 undef = .int .i64 ((j : Int) + 1) := hpre 7 88 (by kernel_rfl) rfl
                    have f1 := e1
                    rw [Array.getD_eq_getD_getElem?] at f1
                    clear hold hpre
                    go_simp
                    exact hK _ _ ⟨89, _, rfl, rfl, Below.refl _ _, rfl⟩
                  · refine wpOp_step rfl (fun K' hK => ?_)
                    have e0 : a.tmps.getD 89 undef = .bool false := hpre 8 89 (by kernel_rfl) rfl
                    have f0 := e0
                    rw [Array.getD_eq_getD_getElem?] at f0
                    clear hold hpre
                    go_simp
                    exact hK _ _ ⟨90, _, rfl, rfl, Below.refl _ _, rfl⟩
                  · refine wpOp_wanted rfl rfl rfl (hpre 9 90 (by kernel_rfl) rfl) (fun K' hK => ?_)
                    have e0 : a.tmps.getD 14 undef = .int .i64 ((j : Int) + 1) := hold 14 (not_dst (by kernel_rfl))
                    have f0 := e0
                    rw [Array.getD_eq_getD_getElem?] at f0
                    clear hold hpre
                    go_simp
                    exact hK _ _ ⟨91, _, rfl, rfl, Below.refl _ _, rfl⟩
                  · refine wpOp_wanted rfl rfl rfl (hpre 9 90 (by kernel_rfl) rfl) (fun K' hK => ?_)
                    have e0 : a.tmps.getD 91 undef = .int .i64 ((j : Int) + 1) := hpre 10 91 (by kernel_rfl) rfl
                    have f0 := e0
                    rw [Array.getD_eq_getD_getElem?] at f0
                    clear hold hpre
                    go_simp
                    exact hK _ _ ⟨92, _, rfl, rfl, Below.refl _ _, rfl⟩
                  · refine wpOp_wanted rfl rfl rfl (hpre 9 90 (by kernel_rfl) rfl) (fun K' hK => ?_)
                    have e0 : a.tmps.getD 92 undef = .bool true := hpre 11 92 (by kernel_rfl) rfl
                    have f0 := e0
                    rw [Array.getD_eq_getD_getElem?] at f0
                    clear hold hpre
                    go_simp
                    exact hK _ _ ⟨93, _, rfl, rfl, Below.refl _ _, rfl⟩
                  · refine wpOp_wanted rfl rfl rfl (hpre 12 93 (by kernel_rfl) rfl) (fun K' hK => ?_)
                    have e0 : a.tmps.getD 6 undef = .slice (some adt) L ct := hold 6 (not_dst (by kernel_rfl))
                    have f0 := e0
                    rw [Array.getD_eq_getD_getElem?] at f0
                    clear hold hpre
                    go_simp
                    exact hK _ _ ⟨94, _, rfl, rfl, Below.refl _ _, rfl⟩
                  · refine wpOp_wanted rfl rfl rfl (hpre 12 93 (by kernel_rfl) rfl) (fun K' hK => ?_)
                    have e0 : a.tmps.getD 10 undef = .slice (some ads) L cs := hold 10 (not_dst (by kernel_rfl))
                    have f0 := e0
                    rw [Array.getD_eq_getD_getElem?] at f0
                    clear hold hpre
                    go_simp
                    exact hK _ _ ⟨95, _, rfl, rfl, Below.refl _ _, rfl⟩
                  · refine wpOp_wanted rfl rfl rfl (hpre 12 93 (by kernel_rfl) rfl) (fun K' hK => ?_)
                    have e0 : a.tmps.getD 14 undef = .int .i64 ((j : Int) + 1) := hold 14 (not_dst (by kernel_rfl))
                    have f0 := e0
                    rw [Array.getD_eq_getD_getElem?] at f0
                    clear hold hpre
                    go_simp
                    exact hK _ _ ⟨96, _, rfl, rfl, Below.refl _ _, rfl⟩
                  · refine wpOp_wanted rfl rfl rfl (hpre 12 93 (by kernel_rfl) rfl) (fun K' hK => ?_)
                    have e0 : a.tmps.getD 96 undef = .int .i64 ((j : Int) + 1) := hpre 15 96 (by kernel_rfl) rfl
                    have f0 := e0
                    rw [Array.getD_eq_getD_getElem?] at f0
                    clear hold hpre
                    go_simp
                    exact hK _ _ ⟨97, _, rfl, rfl, Below.refl _ _, rfl⟩
                  · refine wpOp_wanted rfl rfl rfl (hpre 12 93 (by kernel_rfl) rfl) (fun K' hK => ?_)
                    have e0 : a.tmps.getD 95 undef = .slice (some ads) L cs := hpre 14 95 (by kernel_rfl) rfl
                    have f0 := e0
                    rw [Array.getD_eq_getD_getElem?] at f0
                    have e1 : a.tmps.getD 97 undef = .int .i64 (j : Int) := hpre 16 97 (by kernel_rfl) rfl
                    have f1 := e1
                    rw [Array.getD_eq_getD_getElem?] at f1
                    clear hold hpre
                    go_simp
                    exact hK _ _ ⟨98, _, rfl, rfl, Below.refl _ _, rfl⟩
                  · refine wpOp_wanted rfl rfl rfl (hpre 12 93 (by kernel_rfl) rfl) (fun K' hK => ?_)
                    have e0 : a.tmps.getD 98 undef = .pointer (some (ads.add j)) := hpre 17 98 (by kernel_rfl) rfl
                    have f0 := e0
                    rw [Array.getD_eq_getD_getElem?] at f0
                    have hc3 := HC3.out wx hB2
                    clear hold hpre
                    go_simp
                    exact hK _ _ ⟨99, _, rfl, rfl, Below.refl _ _, rfl⟩
                  · refine wpOp_wanted rfl rfl rfl (hpre 12 93 (by kernel_rfl) rfl) (fun K' hK => ?_)
                    have e0 : a.tmps.getD 10 undef = .slice (some ads) L cs := hold 10 (not_dst (by kernel_rfl))
                    have f0 := e0
                    rw [Array.getD_eq_getD_getElem?] at f0
                    clear hold hpre
                    go_simp
                    exact hK _ _ ⟨100, _, rfl, rfl, Below.refl _ _, rfl⟩
                  · refine wpOp_wanted rfl rfl rfl (hpre 12 93 (by kernel_rfl) rfl) (fun K' hK => ?_)
                    have e0 : a.tmps.getD 14 undef = .int .i64 ((j : Int) + 1) := hold 14 (not_dst (by kernel_rfl))
                    have f0 := e0
                    rw [Array.getD_eq_getD_getElem?] at f0
                    clear hold hpre
                    go_simp
                    exact hK _ _ ⟨101, _, rfl, rfl, Below.refl _ _, rfl⟩
                  · refine wpOp_wanted rfl rfl rfl (hpre 12 93 (by kernel_rfl) rfl) (fun K' hK => ?_)
                    have e0 : a.tmps.getD 100 undef = .slice (some ads) L cs := hpre 19 100 (by kernel_rfl) rfl
                    have f0 := e0
                    rw [Array.getD_eq_getD_getElem?] at f0
                    have e1 : a.tmps.getD 101 undef = .int .i64 ((j : Int) + 1) := hpre 20 101 (by kernel_rfl) rfl
                    have f1 := e1
                    rw [Array.getD_eq_getD_getElem?] at f1
                    clear hold hpre
                    go_simp
                    exact hK _ _ ⟨102, _, rfl, rfl, Below.refl _ _, rfl⟩
                  · refine wpOp_wanted rfl rfl rfl (hpre 12 93 (by kernel_rfl) rfl) (fun K' hK => ?_)
                    have e0 : a.tmps.getD 102 undef = .pointer (some ⟨ads.block, ads.off + (j + 1), none⟩) := hpre 21 102 (by kernel_rfl) rfl
                    have f0 := e0
                    rw [Array.getD_eq_getD_getElem?] at f0
                    have hc1 := HC1.out wx hB2
                    clear hold hpre
                    go_simp
                    exact hK _ _ ⟨103, _, rfl, rfl, Below.refl _ _, rfl⟩
                  · refine wpOp_wanted rfl rfl rfl (hpre 12 93 (by kernel_rfl) rfl) (fun K' hK => ?_)
                    have e0 : a.tmps.getD 94 undef = .slice (some adt) L ct := hpre 13 94 (by kernel_rfl) rfl
                    have f0 := e0
                    rw [Array.getD_eq_getD_getElem?] at f0
                    have e1 : a.tmps.getD 99 undef = .int .i64 (z : Int) := hpre 18 99 (by kernel_rfl) rfl
                    have f1 := e1
                    rw [Array.getD_eq_getD_getElem?] at f1
                    have e2 : a.tmps.getD 103 undef = .int .i64 (x : Int) := hpre 22 103 (by kernel_rfl) rfl
                    have f2 := e2
                    rw [Array.getD_eq_getD_getElem?] at f2
                    have HC := HLe.out wx hB2
                    clear hold hpre
                    go_simp
                    refine HC.out.mono ?_
                    rintro e w' ⟨rfl, hb'⟩
                    exact hK _ _ ⟨104, _, rfl, rfl, hb', rfl⟩
                  · refine wpOp_wanted rfl rfl rfl (hpre 12 93 (by kernel_rfl) rfl) (fun K' hK => ?_)
                    have e0 : a.tmps.getD 104 undef = .bool true := hpre 23 104 (by kernel_rfl) rfl
                    have f0 := e0
                    rw [Array.getD_eq_getD_getElem?] at f0
                    clear hold hpre
                    go_simp
                    exact hK _ _ ⟨105, _, rfl, rfl, Below.refl _ _, rfl⟩
                  · refine wpOp_wanted rfl rfl rfl (hpre 12 93 (by kernel_rfl) rfl) (fun K' hK => ?_)
                    have e0 : a.tmps.getD 105 undef = .bool false := hpre 24 105 (by kernel_rfl) rfl
                    have f0 := e0
                    rw [Array.getD_eq_getD_getElem?] at f0
                    clear hold hpre
                    go_simp
                    exact hK _ _ ⟨106, _, rfl, rfl, Below.refl _ _, rfl⟩
                  · refine wpOp_wanted rfl rfl rfl (hpre 25 106 (by kernel_rfl) rfl) (fun K' hK => ?_)
                    have e0 : a.tmps.getD 6 undef = .slice (some adt) L ct := hold 6 (not_dst (by kernel_rfl))
                    have f0 := e0
                    rw [Array.getD_eq_getD_getElem?] at f0
                    clear hold hpre
                    go_simp
                    exact hK _ _ ⟨107, _, rfl, rfl, Below.refl _ _, rfl⟩
                  · refine wpOp_wanted rfl rfl rfl (hpre 25 106 (by kernel_rfl) rfl) (fun K' hK => ?_)
                    have e0 : a.tmps.getD 10 undef = .slice (some ads) L cs := hold 10 (not_dst (by kernel_rfl))
                    have f0 := e0
                    rw [Array.getD_eq_getD_getElem?] at f0
                    clear hold hpre
                    go_simp
                    exact hK _ _ ⟨108, _, rfl, rfl, Below.refl _ _, rfl⟩
                  · refine wpOp_wanted rfl rfl rfl (hpre 25 106 (by kernel_rfl) rfl) (fun K' hK => ?_)
                    have e0 : a.tmps.getD 14 undef = .int .i64 ((j : Int) + 1) := hold 14 (not_dst (by kernel_rfl))
                    have f0 := e0
                    rw [Array.getD_eq_getD_getElem?] at f0
                    clear hold hpre
                    go_simp
                    exact hK _ _ ⟨109, _, rfl, rfl, Below.refl _ _, rfl⟩
                  · refine wpOp_wanted rfl rfl rfl (hpre 25 106 (by kernel_rfl) rfl) (fun K' hK => ?_)
                    have e0 : a.tmps.getD 109 undef = .int .i64 ((j : Int) + 1) := hpre 28 109 (by kernel_rfl) rfl
                    have f0 := e0
                    rw [Array.getD_eq_getD_getElem?] at f0
                    clear hold hpre
                    go_simp
                    exact hK _ _ ⟨110, _, rfl, rfl, Below.refl _ _, rfl⟩
                  · refine wpOp_wanted rfl rfl rfl (hpre 25 106 (by kernel_rfl) rfl) (fun K' hK => ?_)
                    have e0 : a.tmps.getD 108 undef = .slice (some ads) L cs := hpre 27 108 (by kernel_rfl) rfl
                    have f0 := e0
                    rw [Array.getD_eq_getD_getElem?] at f0
                    have e1 : a.tmps.getD 110 undef = .int .i64 (j : Int) := hpre 29 110 (by kernel_rfl) rfl
                    have f1 := e1
                    rw [Array.getD_eq_getD_getElem?] at f1
                    clear hold hpre
                    go_simp
                    exact hK _ _ ⟨111, _, rfl, rfl, Below.refl _ _, rfl⟩
                  · refine wpOp_wanted rfl rfl rfl (hpre 25 106 (by kernel_rfl) rfl) (fun K' hK => ?_)
                    have e0 : a.tmps.getD 111 undef = .pointer (some (ads.add j)) := hpre 30 111 (by kernel_rfl) rfl
                    have f0 := e0
                    rw [Array.getD_eq_getD_getElem?] at f0
                    have hc3 := HC3.out wx hB2
                    clear hold hpre
                    go_simp
                    exact hK _ _ ⟨112, _, rfl, rfl, Below.refl _ _, rfl⟩
                  · refine wpOp_wanted rfl rfl rfl (hpre 25 106 (by kernel_rfl) rfl) (fun K' hK => ?_)
                    have e0 : a.tmps.getD 10 undef = .slice (some ads) L cs := hold 10 (not_dst (by kernel_rfl))
                    have f0 := e0
                    rw [Array.getD_eq_getD_getElem?] at f0
                    clear hold hpre
                    go_simp
                    exact hK _ _ ⟨113, _, rfl, rfl, Below.refl _ _, rfl⟩
                  · refine wpOp_wanted rfl rfl rfl (hpre 25 106 (by kernel_rfl) rfl) (fun K' hK => ?_)
                    have e0 : a.tmps.getD 14 undef = .int .i64 ((j : Int) + 1) := hold 14 (not_dst (by kernel_rfl))
                    have f0 := e0
                    rw [Array.getD_eq_getD_getElem?] at f0
                    clear hold hpre
                    go_simp
                    exact hK _ _ ⟨114, _, rfl, rfl, Below.refl _ _, rfl⟩
                  · refine wpOp_wanted rfl rfl rfl (hpre 25 106 (by kernel_rfl) rfl) (fun K' hK => ?_)
                    have e0 : a.tmps.getD 113 undef = .slice (some ads) L cs := hpre 32 113 (by kernel_rfl) rfl
                    have f0 := e0
                    rw [Array.getD_eq_getD_getElem?] at f0
                    have e1 : a.tmps.getD 114 undef = .int .i64 ((j : Int) + 1) := hpre 33 114 (by kernel_rfl) rfl
                    have f1 := e1
                    rw [Array.getD_eq_getD_getElem?] at f1
                    clear hold hpre
                    go_simp
                    exact hK _ _ ⟨115, _, rfl, rfl, Below.refl _ _, rfl⟩
                  · refine wpOp_wanted rfl rfl rfl (hpre 25 106 (by kernel_rfl) rfl) (fun K' hK => ?_)
                    have e0 : a.tmps.getD 115 undef = .pointer (some ⟨ads.block, ads.off + (j + 1), none⟩) := hpre 34 115 (by kernel_rfl) rfl
                    have f0 := e0
                    rw [Array.getD_eq_getD_getElem?] at f0
                    have hc1 := HC1.out wx hB2
                    clear hold hpre
                    go_simp
                    exact hK _ _ ⟨116, _, rfl, rfl, Below.refl _ _, rfl⟩
                  · refine wpOp_wanted rfl rfl rfl (hpre 25 106 (by kernel_rfl) rfl) (fun K' hK => ?_)
                    have e0 : a.tmps.getD 107 undef = .slice (some adt) L ct := hpre 26 107 (by kernel_rfl) rfl
                    have f0 := e0
                    rw [Array.getD_eq_getD_getElem?] at f0
                    have e1 : a.tmps.getD 112 undef = .int .i64 (z : Int) := hpre 31 112 (by kernel_rfl) rfl
                    have f1 := e1
                    rw [Array.getD_eq_getD_getElem?] at f1
                    have e2 : a.tmps.getD 116 undef = .int .i64 (x : Int) := hpre 35 116 (by kernel_rfl) rfl
                    have f2 := e2
                    rw [Array.getD_eq_getD_getElem?] at f2
                    have HC := HL1.out wx hB2
                    clear hold hpre
                    go_simp
                    refine HC.out.mono ?_
                    rintro e w' ⟨rfl, hb'⟩
                    exact hK _ _ ⟨117, _, rfl, rfl, hb', rfl⟩
                  · refine wpOp_wanted rfl rfl rfl (hpre 25 106 (by kernel_rfl) rfl) (fun K' hK => ?_)
                    have e0 : a.tmps.getD 117 undef = .int .i64 (-1) := hpre 36 117 (by kernel_rfl) rfl
                    have f0 := e0
                    rw [Array.getD_eq_getD_getElem?] at f0
                    clear hold hpre
                    go_simp
                    exact hK _ _ ⟨118, _, rfl, rfl, Below.refl _ _, rfl⟩
                  · refine wpOp_wanted rfl rfl rfl (hpre 12 93 (by kernel_rfl) rfl) (fun K' hK => ?_)
                    have e0 : a.tmps.getD 106 undef = .bool false := hpre 25 106 (by kernel_rfl) rfl
                    have f0 := e0
                    rw [Array.getD_eq_getD_getElem?] at f0
                    have e1 : a.tmps.getD 118 undef = .bool false := hpre 37 118 (by kernel_rfl) rfl
                    have f1 := e1
                    rw [Array.getD_eq_getD_getElem?] at f1
                    clear hold hpre
                    go_simp
                    exact hK _ _ ⟨119, _, rfl, rfl, Below.refl _ _, rfl⟩
                  · refine wpOp_wanted rfl rfl rfl (hpre 12 93 (by kernel_rfl) rfl) (fun K' hK => ?_)
                    have e0 : a.tmps.getD 119 undef = .bool false := hpre 38 119 (by kernel_rfl) rfl
                    have f0 := e0
                    rw [Array.getD_eq_getD_getElem?] at f0
                    clear hold hpre
                    go_simp
                    exact hK _ _ ⟨120, _, rfl, rfl, Below.refl _ _, rfl⟩
                  · refine wpOp_wanted rfl rfl rfl (hpre 39 120 (by kernel_rfl) rfl) (fun K' hK => ?_)
                    have e0 : a.tmps.getD 6 undef = .slice (some adt) L ct := hold 6 (not_dst (by kernel_rfl))
                    have f0 := e0
                    rw [Array.getD_eq_getD_getElem?] at f0
                    clear hold hpre
                    go_simp
                    exact hK _ _ ⟨121, _, rfl, rfl, Below.refl _ _, rfl⟩
                  · refine wpOp_wanted rfl rfl rfl (hpre 39 120 (by kernel_rfl) rfl) (fun K' hK => ?_)
                    have e0 : a.tmps.getD 10 undef = .slice (some ads) L cs := hold 10 (not_dst (by kernel_rfl))
                    have f0 := e0
                    rw [Array.getD_eq_getD_getElem?] at f0
                    clear hold hpre
                    go_simp
                    exact hK _ _ ⟨122, _, rfl, rfl, Below.refl _ _, rfl⟩
                  · refine wpOp_wanted rfl rfl rfl (hpre 39 120 (by kernel_rfl) rfl) (fun K' hK => ?_)
                    have e0 : a.tmps.getD 14 undef = .int .i64 ((j : Int) + 1) := hold 14 (not_dst (by kernel_rfl))
                    have f0 := e0
                    rw [Array.getD_eq_getD_getElem?] at f0
                    clear hold hpre
                    go_simp
                    exact hK _ _ ⟨123, _, rfl, rfl, Below.refl _ _, rfl⟩
                  · refine wpOp_wanted rfl rfl rfl (hpre 39 120 (by kernel_rfl) rfl) (fun K' hK => ?_)
                    have e0 : a.tmps.getD 122 undef = .slice (some ads) L cs := hpre 41 122 (by kernel_rfl) rfl
                    have f0 := e0
                    rw [Array.getD_eq_getD_getElem?] at f0
                    have e1 : a.tmps.getD 123 undef = .int .i64 ((j : Int) + 1) := hpre 42 123 (by kernel_rfl) rfl
                    have f1 := e1
                    rw [Array.getD_eq_getD_getElem?] at f1
                    clear hold hpre
                    go_simp
                    exact hK _ _ ⟨124, _, rfl, rfl, Below.refl _ _, rfl⟩
                  · refine wpOp_wanted rfl rfl rfl (hpre 39 120 (by kernel_rfl) rfl) (fun K' hK => ?_)
                    have e0 : a.tmps.getD 124 undef = .pointer (some ⟨ads.block, ads.off + (j + 1), none⟩) := hpre 43 124 (by kernel_rfl) rfl
                    have f0 := e0
                    rw [Array.getD_eq_getD_getElem?] at f0
                    have hc1 := HC1.out wx hB2
                    clear hold hpre
                    go_simp
                    exact hK _ _ ⟨125, _, rfl, rfl, Below.refl _ _, rfl⟩
                  · refine wpOp_wanted rfl rfl rfl (hpre 39 120 (by kernel_rfl) rfl) (fun K' hK => ?_)
                    have e0 : a.tmps.getD 10 undef = .slice (some ads) L cs := hold 10 (not_dst (by kernel_rfl))
                    have f0 := e0
                    rw [Array.getD_eq_getD_getElem?] at f0
                    clear hold hpre
                    go_simp
                    exact hK _ _ ⟨126, _, rfl, rfl, Below.refl _ _, rfl⟩
                  · refine wpOp_wanted rfl rfl rfl (hpre 39 120 (by kernel_rfl) rfl) (fun K' hK => ?_)
                    have e0 : a.tmps.getD 14 undef = .int .i64 ((j : Int) + 1) := hold 14 (not_dst (by kernel_rfl))
                    have f0 := e0
                    rw [Array.getD_eq_getD_getElem?] at f0
                    clear hold hpre
                    go_simp
                    exact hK _ _ ⟨127, _, rfl, rfl, Below.refl _ _, rfl⟩
                  · refine wpOp_wanted rfl rfl rfl (hpre 39 120 (by kernel_rfl) rfl) (fun K' hK => ?_)
                    have e0 : a.tmps.getD 127 undef = .int .i64 ((j : Int) + 1) := hpre 46 127 (by kernel_rfl) rfl
                    have f0 := e0
                    rw [Array.getD_eq_getD_getElem?] at f0
                    clear hold hpre
                    go_simp
                    exact hK _ _ ⟨128, _, rfl, rfl, Below.refl _ _, rfl⟩
                  · refine wpOp_wanted rfl rfl rfl (hpre 39 120 (by kernel_rfl) rfl) (fun K' hK => ?_)
                    have e0 : a.tmps.getD 126 undef = .slice (some ads) L cs := hpre 45 126 (by kernel_rfl) rfl
                    have f0 := e0
                    rw [Array.getD_eq_getD_getElem?] at f0
                    have e1 : a.tmps.getD 128 undef = .int .i64 (j : Int) := hpre 47 128 (by kernel_rfl) rfl
                    have f1 := e1
                    rw [Array.getD_eq_getD_getElem?] at f1
                    clear hold hpre
                    go_simp
                    exact hK _ _ ⟨129, _, rfl, rfl, Below.refl _ _, rfl⟩
                  · refine wpOp_wanted rfl rfl rfl (hpre 39 120 (by kernel_rfl) rfl) (fun K' hK => ?_)
                    have e0 : a.tmps.getD 129 undef = .pointer (some (ads.add j)) := hpre 48 129 (by kernel_rfl) rfl
                    have f0 := e0
                    rw [Array.getD_eq_getD_getElem?] at f0
                    have hc3 := HC3.out wx hB2
                    clear hold hpre
                    go_simp
                    exact hK _ _ ⟨130, _, rfl, rfl, Below.refl _ _, rfl⟩
                  · refine wpOp_wanted rfl rfl rfl (hpre 39 120 (by kernel_rfl) rfl) (fun K' hK => ?_)
                    have e0 : a.tmps.getD 121 undef = .slice (some adt) L ct := hpre 40 121 (by kernel_rfl) rfl
                    have f0 := e0
                    rw [Array.getD_eq_getD_getElem?] at f0
                    have e1 : a.tmps.getD 125 undef = .int .i64 (x : Int) := hpre 44 125 (by kernel_rfl) rfl
                    have f1 := e1
                    rw [Array.getD_eq_getD_getElem?] at f1
                    have e2 : a.tmps.getD 130 undef = .int .i64 (z : Int) := hpre 49 130 (by kernel_rfl) rfl
                    have f2 := e2
                    rw [Array.getD_eq_getD_getElem?] at f2
                    have HC := HL2.out wx hB2
                    clear hold hpre
                    go_simp
                    refine HC.out.mono ?_
                    rintro e w' ⟨rfl, hb'⟩
                    exact hK _ _ ⟨131, _, rfl, rfl, hb', rfl⟩
                  · refine wpOp_wanted rfl rfl rfl (hpre 39 120 (by kernel_rfl) rfl) (fun K' hK => ?_)
                    have e0 : a.tmps.getD 131 undef = .int .i64 1 := hpre 50 131 (by kernel_rfl) rfl
                    have f0 := e0
                    rw [Array.getD_eq_getD_getElem?] at f0
                    clear hold hpre
                    go_simp
                    exact hK _ _ ⟨132, _, rfl, rfl, Below.refl _ _, rfl⟩
                  · refine wpOp_wanted rfl rfl rfl (hpre 12 93 (by kernel_rfl) rfl) (fun K' hK => ?_)
                    have e0 : a.tmps.getD 120 undef = .bool false := hpre 39 120 (by kernel_rfl) rfl
                    have f0 := e0
                    rw [Array.getD_eq_getD_getElem?] at f0
                    have e1 : a.tmps.getD 132 undef = .bool false := hpre 51 132 (by kernel_rfl) rfl
                    have f1 := e1
                    rw [Array.getD_eq_getD_getElem?] at f1
                    clear hold hpre
                    go_simp
                    exact hK _ _ ⟨133, _, rfl, rfl, Below.refl _ _, rfl⟩
                  · refine wpOp_wanted rfl rfl rfl (hpre 9 90 (by kernel_rfl) rfl) (fun K' hK => ?_)
                    have e0 : a.tmps.getD 93 undef = .bool true := hpre 12 93 (by kernel_rfl) rfl
                    have f0 := e0
                    rw [Array.getD_eq_getD_getElem?] at f0
                    have e1 : a.tmps.getD 133 undef = .bool false := hpre 52 133 (by kernel_rfl) rfl
                    have f1 := e1
                    rw [Array.getD_eq_getD_getElem?] at f1
                    clear hold hpre
                    go_simp
                    exact hK _ _ ⟨134, _, rfl, rfl, Below.refl _ _, rfl⟩
                  · refine wpOp_step rfl (fun K' hK => ?_)
                    have e0 : a.tmps.getD 90 undef = .bool false := hpre 9 90 (by kernel_rfl) rfl
                    have f0 := e0
                    rw [Array.getD_eq_getD_getElem?] at f0
                    have e1 : a.tmps.getD 134 undef = .bool false := hpre 53 134 (by kernel_rfl) rfl
                    have f1 := e1
                    rw [Array.getD_eq_getD_getElem?] at f1
                    clear hold hpre
                    go_simp
                    exact hK _ _ ⟨135, _, rfl, rfl, Below.refl _ _, rfl⟩
                · intro t wx hsz hold hB2 hf
                  have e135 : t.getD 135 undef = .bool false := hf 54 135 rfl
                  obtain ⟨f, hfd, hl⟩ := frame_part hsz 81 55 136 rfl (Nat.le_of_ble_eq_true rfl) (fun d hd => hold d (not_range (lo := 81) (hi := 136) (by kernel_rfl) hd))
                  rw [hfd] at e135
                  have hBx := hbr.trans (hB2.mono hbr.size)
                  clear hold hf hfd hsz
                  subst hl
                  simp only [List.take_succ_cons, List.take_zero, List.drop_succ_cons, List.drop_zero, List.range'_succ, List.range'_zero, List.map_cons, List.map_nil, List.cons_append, List.nil_append, Nat.reduceAdd, e135]
                  clear e135
                  go_wp2_with fail
                  go_roundw
                  case rel => exact ⟨j + 2, by omega, by go_num, hBx⟩
                  case measure => simp [intOf]; omega
            · obtain rfl : q = L := by omega
              go_wp2_with fail
              go_ret
              exact ⟨rfl, hB2.trans (hbr.mono hB2.size)⟩
end Go.Proofs.Ytpcdbmkmpphhiaa
