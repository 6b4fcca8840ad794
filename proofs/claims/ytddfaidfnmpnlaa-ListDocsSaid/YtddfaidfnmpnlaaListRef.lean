/- The document's function of layer 17: Docs. -/
import Derived.Test.YtddfaidfnmpnlaaListMath
import Derived.Test.YtddfaidfnmpnlaaWavRef
import Derived.Test.YtddfaidfnmpnlaaSufI
namespace Go.Proofs.Ytddfaidfnmpnlaa
open Go.RowKit

/-- the numbers of S as a slice of ints that can be read. -/
def EnumR (w : World) (S : Int → Prop) (v : Value) : Prop := ∃ (A : Option Addr) (c m : Nat) (F : Nat → Int), v = .slice A m c ∧ EnumS S F m ∧ ItsR w A m c F

set_option maxRecDepth 100000 in
set_option maxHeartbeats 3200000 in
theorem refDocs17_any (A : Option Addr) (n c : Nat) (V : Nat → Int) (a b : Int) (B0 : Nat) (w : World) (hn : n ≤ 4000000) (ho : Its w B0 A n V) (hB0 : B0 ≤ w.heap.size) :
    Calls Try.prog 9 #[.slice A n c, .int .i64 a, .int .i64 b] w fun e w' => (∃ v, e = .returned v ∧ EnumR w' (RngS V a b n) v) ∧ Below w.heap.size w w' := by
  have HO := Lib.hid (ho.mono_ hB0)
  obtain ⟨B, hB⟩ : ∃ B, w.heap.size = B := ⟨_, rfl⟩
  rw [hB] at HO ⊢
  clear ho hB0
  go_enter Try.func9, Try.ntmps9
  go_wp2_with fail
  go_loopw [7, 14] (fun u v wr => ∃ (i m : Nat) (F : Nat → Int), i ≤ n ∧ v = .int .i64 (i : Int) ∧ Hid (wr.ownsRow B 3 1 u m (icells F m)) ∧ Hid (EnumS (RngS V a b i) F m) ∧ Hid (Below B w wr)) (fun _ v _ => n - (intOf v).toNat)
  case atStart => exact ⟨0, 0, fun _ => 0, Nat.zero_le _, rfl, Lib.hid (World.ownsRow_nil w _ _ _), Lib.hid (EnumS.none fun x ⟨j, hj, _⟩ => absurd hj (Nat.not_lt_zero j)), Lib.hid (Below.refl _ _)⟩
  case round =>
    obtain ⟨i, m, F, hi, rfl, hrow, hE, hb⟩ := hrel
    by_cases hlt : i < n
    · have hlti : (i : Int) < (n : Int) := by omega
      obtain ⟨ad, rfl, _, hc, hxr⟩ := HO.out.below hb.out i hlt
      by_cases hin : a ≤ (i : Int) ∧ (i : Int) < b
      · have d1 : decide ((i : Int) < a) = false := decide_eq_false (by omega)
        have d2 : decide (b ≤ (i : Int)) = false := decide_eq_false (by omega)
        have hS := RngS.in_ (V := V) hin.1 hin.2
        have hmi : m ≤ i := RngS.most hE.out
        obtain ⟨x, hx⟩ : ∃ x, V i = x := ⟨_, rfl⟩
        rw [hx] at hc hxr hS
        have HS := Lib.hid hS
        obtain ⟨X, cx, hX⟩ := owns_slice hrow.out
        subst hX
        have hBw : B ≤ wr.heap.size := by have := hb.out.size; omega
        clear hx hS hin
        go_upto_block 2 with (fail)
        go_cut [10] from 27 to 40 (fun v wx => ∃ p : Nat, p ≤ m ∧ v = .int .i64 (p : Int) ∧ wx = wr ∧ Hid (AtF F m p x))
        case first =>
          go_wp2_with fail
          go_loop [10] (fun v => ∃ p : Nat, p ≤ m ∧ v = .int .i64 (p : Int) ∧ Hid (∀ j, j < p → F j < x)) (fun v => m - (intOf v).toNat)
          case atStart => exact ⟨0, Nat.zero_le _, rfl, Lib.hid fun j hj => absurd hj (Nat.not_lt_zero j)⟩
          case round =>
            obtain ⟨p, hp, rfl, hlow⟩ := hrel
            by_cases hpi : p < m
            · have hpii : (p : Int) < (m : Int) := by omega
              obtain ⟨g, c', e', _⟩ := owns_some hrow.out (by omega)
              cases e'
              have hcp : wr.cell? ⟨g, p, none⟩ = some (.int .i64 (F p)) := by
                rw [hrow.out.cellAt p (by omega)]
                exact icells_at _ _ _ hpi
              obtain ⟨y, hy⟩ : ∃ y, F p = y := ⟨_, rfl⟩
              rw [hy] at hcp
              by_cases hyx : y < x
              · have g1 : decide (y < x) = true := decide_eq_true hyx
                have HL2 : Hid (∀ j, j < p + 1 → F j < x) := Lib.hid fun j hj => by
                  by_cases e : j = p
                  · rw [e, hy]
                    exact hyx
                  · exact hlow.out j (by omega)
                clear hlow hy
                go_wp2_with fail
                go_round
                case rel => exact ⟨p + 1, by omega, by go_num, HL2⟩
                case measure => simp [intOf]; omega
              · have g1 : decide (y < x) = false := decide_eq_false hyx
                have HT : Hid (AtF F m p x) := Lib.hid ⟨hp, hlow.out, fun _ => by omega⟩
                clear hlow hy
                go_wp2_with fail
                go_meet
                exact ⟨p, hp, rfl, rfl, HT⟩
            · have g1 : decide ((p : Int) < (m : Int)) = false := decide_eq_false (by omega)
              have g1' : ¬ (p : Int) < (m : Int) := by omega
              have HT : Hid (AtF F m p x) := Lib.hid ⟨hp, hlow.out, fun h => absurd h hpi⟩
              clear hlow
              go_wp2_with fail
              go_meet
              exact ⟨p, hp, rfl, rfl, HT⟩
        case rest =>
          obtain ⟨p, hp, rfl, rfl, HT⟩ := hcut
          rename World => wz
          by_cases hsame : p < m ∧ F p = x
          · obtain ⟨hpi, hy⟩ := hsame
            have hpii : (p : Int) < (m : Int) := by omega
            obtain ⟨g, c', e', _⟩ := owns_some hrow.out (by omega)
            cases e'
            have hcp : wz.cell? ⟨g, p, none⟩ = some (.int .i64 (F p)) := by
              rw [hrow.out.cellAt p (by omega)]
              exact icells_at _ _ _ hpi
            rw [hy] at hcp
            have g1 : (x == x) = true := by rw [beq_iff_eq]
            have HN : Hid (EnumS (RngS V a b (i + 1)) F m) := Lib.hid (hE.out.old HS.out hpi hy)
            clear hy hE HT HS
            go_wp2_with fail
            go_roundw
            case rel => exact ⟨i + 1, m, F, by omega, by go_num, hrow, HN, hb⟩
            case measure => simp [intOf]; omega
          · have HN : Hid (EnumS (RngS V a b (i + 1)) (insE F p x) (m + 1)) := Lib.hid (hE.out.ins HS.out HT.out fun h1 h2 => hsame ⟨h1, h2⟩)
            refine (‹∀ (a : Act) (w : World), Code.wp _ _ _ a w → _›) _ _ ?_
            go_upto_region 9 with (fail)
            go_cut [52] from 41 to 52 (fun v wx => v = .bool false ∧ wx = wz)
            case first =>
              by_cases hpi : p < m
              · have hpii : (p : Int) < (m : Int) := by omega
                obtain ⟨g, c', e', _⟩ := owns_some hrow.out (by omega)
                cases e'
                have hcp : wz.cell? ⟨g, p, none⟩ = some (.int .i64 (F p)) := by
                  rw [hrow.out.cellAt p (by omega)]
                  exact icells_at _ _ _ hpi
                obtain ⟨y, hy⟩ : ∃ y, F p = y := ⟨_, rfl⟩
                rw [hy] at hcp
                have g1 : (y == x) = false := by
                  rw [beq_eq_false_iff_ne]
                  exact fun e => hsame ⟨hpi, by rw [hy]; exact e⟩
                clear hy hE HT HS hsame HN
                go_wp2_with fail
                go_meet
                exact ⟨rfl, rfl⟩
              · have g1 : decide ((p : Int) < (m : Int)) = false := decide_eq_false (by omega)
                have g1' : ¬ (p : Int) < (m : Int) := by omega
                clear hE HT HS hsame HN
                go_wp2_with fail
                go_meet
                exact ⟨rfl, rfl⟩
            case rest =>
              obtain ⟨rfl, rfl⟩ := hcut
              rename World => wz
              have hm4 : m ≤ 4194304 := by omega
              have w1 : IntKind.i64.wrap (((m + 1 : Nat) : Int) - 1) = (m : Int) := by rw [IntWalk.i64_in _ (by omega)]; omega
              have hAF := HT.out.le
              obtain ⟨M, hM⟩ : ∃ M, m + 1 = M := ⟨_, rfl⟩
              have HM := Lib.hid hM
              have hmM : m < M := by omega
              have hM4 : M ≤ 4194304 := by omega
              rw [hM] at w1 HN
              go_wp2_with (at_builtin; refine step_append_int rfl (.tmp 53) (.tmp 54) rfl rfl hrow.out 0 rfl hBw hm4 ?_; intro v4 w4 hown4 hb4; obtain ⟨g, cg, hv4, hBg, _⟩ := owns_some hown4.out (by omega); subst hv4; rw [hM] at hown4)
              have HB4 : Hid (Below B w w4) := Lib.hid (hb.out.trans hb4)
              obtain ⟨G, hG, hGm⟩ : ∃ G : Nat → Int, (∀ j, j < m → G j = F j) ∧ G m = 0 := ⟨fun j => if j = m then 0 else F j, fun j hj => if_neg (by omega), if_pos rfl⟩
              have HG := Lib.hid hG
              have HR4 : Hid (w4.ownsRow B 3 1 (.slice (some ⟨g, 0, none⟩) M cg) M (icells (shF G m) M)) := Lib.hid (by
                have h := hown4.out
                have e2 := HM.out
                subst e2
                rw [icells_congr (U := shF G m) (U' := G) (fun j hj => shF_none G (by omega)), icells_snoc, hGm, icells_congr (U := G) (U' := F) hG]
                exact h)
              clear hM hrow hown4 hb4 hb hc hG hGm hE HS hsame
              rename World => wy
              go_loopw [11] (fun v wr => ∃ q : Nat, p ≤ q ∧ q ≤ m ∧ v = .int .i64 (q : Int) ∧ Hid (wr.ownsRow B 3 1 (.slice (some ⟨g, 0, none⟩) M cg) M (icells (shF G q) M)) ∧ Hid (Below B w wr)) (fun v _ => (intOf v).toNat)
              case atStart => exact ⟨m, hp, Nat.le_refl _, rfl, HR4, HB4⟩
              case round =>
                clear HR4 HB4
                obtain ⟨q, hpq, hqi, rfl, hR, hb⟩ := hrel
                have hR := hR.out
                by_cases hlt2 : p < q
                · have hlti2 : (p : Int) < (q : Int) := by omega
                  obtain ⟨q', rfl⟩ : ∃ q', q = q' + 1 := ⟨q - 1, by omega⟩
                  have w2 : IntKind.i64.wrap (((q' + 1 : Nat) : Int) - 1) = (q' : Int) := by rw [IntWalk.i64_in _ (by omega)]; omega
                  have c1 : wr.cell? ⟨g, q', none⟩ = some (.int .i64 (G q')) := by
                    rw [hR.cellAt q' (by omega), icells_at _ _ _ (by omega), shF_none G (by omega)]
                  have c2 : wr.cell? ⟨g, q' + 1, none⟩ = some (.int .i64 (shF G (q' + 1) (q' + 1))) := by
                    rw [hR.cellAt (q' + 1) (by omega)]
                    exact icells_at _ _ _ (by omega)
                  have f2 := owns_free hR (q' + 1)
                  have HN2 : Hid ((wr.setCell ⟨g, q' + 1, none⟩ (.int .i64 (G q'))).ownsRow B 3 1 (.slice (some ⟨g, 0, none⟩) M cg) M (icells (shF G q') M)) := Lib.hid (by
                    have := owns_put hR (q' + 1) (.int .i64 (G q'))
                    rw [icells_put] at this
                    rw [icells_congr (U := shF G q') (U' := fun j => if j = q' + 1 then G q' else shF G (q' + 1) j) (fun j _ => (shF_step G (k := q' + 1) (by omega) j).symm)]
                    exact this)
                  have HB2 : Hid (Below B w (wr.setCell ⟨g, q' + 1, none⟩ (.int .i64 (G q')))) := Lib.hid (hb.out.setCell (p := ⟨g, q' + 1, none⟩) hBg _)
                  generalize G q' = y at c1 HN2 HB2
                  generalize shF G (q' + 1) (q' + 1) = z at c2
                  generalize hq1 : q' + 1 = q1 at w2 c2 f2 HN2 HB2 hlti2 hlt2 hqi hpq
                  have b1 : (q' : Int) < (M : Int) := by omega
                  have b2 : (q1 : Int) < (M : Int) := by omega
                  have b3 : q' < M := by omega
                  have b4 : q1 < M := by omega
                  have b5 : p ≤ q' := by omega
                  have b6 : q' ≤ m := by omega
                  have b7 : q' < q1 := by omega
                  clear hR hb hq1
                  go_wp2_with fail
                  go_roundw
                  case rel => exact ⟨q', b5, b6, rfl, HN2, HB2⟩
                  case measure => simp [intOf]; omega
                · have hqp : q = p := by omega
                  have hge : ¬ (p : Int) < (q : Int) := by omega
                  have hpm : p < M := by omega
                  have c2 : wr.cell? ⟨g, p, none⟩ = some (.int .i64 (shF G q p)) := by
                    rw [hR.cellAt p (by omega)]
                    exact icells_at _ _ _ (by omega)
                  have f2 := owns_free hR p
                  have HN2 : Hid ((wr.setCell ⟨g, p, none⟩ (.int .i64 x)).ownsRow B 3 1 (.slice (some ⟨g, 0, none⟩) M cg) M (icells (insE F p x) M)) := Lib.hid (by
                    have := owns_put hR p (.int .i64 x)
                    rw [icells_put] at this
                    rw [icells_congr (U := insE F p x) (U' := fun j => if j = p then x else shF G q j) (fun j hj => by
                      have := HM.out
                      rw [hqp]
                      exact (shF_ins HG.out (by omega) (by omega)).symm)]
                    exact this)
                  have HB2 : Hid (Below B w (wr.setCell ⟨g, p, none⟩ (.int .i64 x))) := Lib.hid (hb.out.setCell (p := ⟨g, p, none⟩) hBg _)
                  generalize shF G q p = z at c2
                  have b1 : (p : Int) < (M : Int) := by omega
                  clear hR hb hqp
                  go_wp2_with fail
                  go_roundw
                  case rel => exact ⟨i + 1, M, insE F p x, by omega, by go_num, HN2, HN, HB2⟩
                  case measure => simp [intOf]; omega
      · have HN : Hid (EnumS (RngS V a b (i + 1)) F m) := Lib.hid (hE.out.congr (RngS.out_ hin))
        by_cases h1 : (i : Int) < a
        · have d1 : decide ((i : Int) < a) = true := decide_eq_true h1
          clear hE
          go_wp2_with fail
          go_roundw
          case rel => exact ⟨i + 1, m, F, by omega, by go_num, hrow, HN, hb⟩
          case measure => simp [intOf]; omega
        · have d1 : decide ((i : Int) < a) = false := decide_eq_false h1
          have d2 : decide (b ≤ (i : Int)) = true := decide_eq_true (by omega)
          clear hE
          go_wp2_with fail
          go_roundw
          case rel => exact ⟨i + 1, m, F, by omega, by go_num, hrow, HN, hb⟩
          case measure => simp [intOf]; omega
    · have hin : i = n := by omega
      have hge : ¬ (i : Int) < (n : Int) := by omega
      have HE := hE
      rw [hin] at HE
      clear hin hE
      obtain ⟨X, cx, e, hI⟩ := ItsR.of_own hrow.out (fun p hp => by
        obtain ⟨j, hj, _, _, e⟩ := (HE.out.each (F p)).2 ⟨p, hp, rfl⟩
        obtain ⟨_, _, _, _, h⟩ := HO.out j hj
        rw [← e]
        exact h)
      subst e
      have HI := Lib.hid hI
      clear hrow hI
      go_wp2_with fail
      go_ret
      exact ⟨⟨_, rfl, X, cx, m, F, rfl, HE.out, HI.out⟩, hb.out⟩
end Go.Proofs.Ytddfaidfnmpnlaa
