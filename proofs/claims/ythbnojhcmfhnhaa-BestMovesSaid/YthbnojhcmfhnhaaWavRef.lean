/- The document's functions of layer 13: Part, Sorted, Width. -/
import Derived.Test.YthbnojhcmfhnhaaWavMath
import Derived.Test.YthbnojhcmfhnhaaSufTurn
import Derived.Test.YthbnojhcmfhnhaaListR
import Derived.Test.YthbnojhcmfhnhaaIntPut
import Derived.Test.YthbnojhcmfhnhaaSufI
import Derived.Deep.CutBlock
import Derived.Deep.CutRange
namespace Go.Proofs.Ythbnojhcmfhnhaa
open Go.RowKit

/-- a list as a row. -/
theorem icells_litI {V : Nat → Int} {l : List Int} (h : ∀ k, k < l.length → l[k]? = some (V k)) : icells V l.length = icells (litI l) l.length := icells_congr fun k hk => by
  unfold litI
  rw [List.getD_eq_getElem?_getD, h k hk]
  rfl
theorem litI_at {l : List Int} {k : Nat} {x : Int} (h : l[k]? = some x) : litI l k = x := by
  unfold litI
  rw [List.getD_eq_getElem?_getD, h]
  rfl
theorem litI_some {l : List Int} {k : Nat} (h : k < l.length) : l[k]? = some (litI l k) := by
  rw [litI_at (List.getElem?_eq_getElem h)]
  exact List.getElem?_eq_getElem h
theorem icells_litI_snoc (l : List Int) (x : Int) : icells (litI (l ++ [x])) (l.length + 1) = icells (litI l) l.length ++ [.int .i64 x] := by
  rw [icells_snoc, icells_congr (U := litI (l ++ [x])) (U' := litI l) (fun k hk => litI_at (by rw [List.getElem?_append_left hk]; exact litI_some hk)), litI_at (x := x) (by rw [List.getElem?_append_right (Nat.le_refl _), Nat.sub_self]; rfl)]

set_option maxRecDepth 100000 in
set_option maxHeartbeats 1600000 in
theorem refPart_any (A : Option Addr) (n c : Nat) (V : Nat → Int) (a b : Int) (w : World) (hn : n ≤ 4194304) (ho : Its w w.heap.size A n V) :
    Calls Try.prog 11 #[.slice A n c, .int .i64 a, .int .i64 b] w fun e w' => ∃ u : Value, e = .returned u ∧ w'.ownsRow w.heap.size 3 1 u (partL V a b n).length (icells (litI (partL V a b n)) (partL V a b n).length) ∧ Below w.heap.size w w' := by
  have HO := Lib.hid ho
  clear ho
  go_enter Try.func11, Try.ntmps11
  go_wp2_with fail
  go_loopw [7, 12] (fun u v wr => ∃ i m : Nat, i ≤ n ∧ m ≤ i ∧ v = .int .i64 (i : Int) ∧ Hid (m = (partL V a b i).length ∧ wr.ownsRow w.heap.size 3 1 u m (icells (litI (partL V a b i)) m)) ∧ Hid (Below w.heap.size w wr)) (fun _ v _ => n - (intOf v).toNat)
  case atStart => exact ⟨0, 0, Nat.zero_le _, Nat.le_refl _, rfl, Lib.hid ⟨rfl, World.ownsRow_nil w _ _ _⟩, Lib.hid (Below.refl _ _)⟩
  case round =>
    obtain ⟨i, m, hi, hmi, rfl, hrow, hb⟩ := hrel
    have hbs := hb.out.size
    by_cases hlt : i < n
    · have hlti : (i : Int) < (n : Int) := by omega
      obtain ⟨ad, rfl, _, hc, _⟩ := HO.out.below hb.out i hlt
      by_cases hin : a ≤ (i : Int) ∧ (i : Int) < b
      · have g1 : decide (a ≤ (i : Int)) = true := decide_eq_true hin.1
        have g2 : decide ((i : Int) < b) = true := decide_eq_true hin.2
        have HP : Hid (partL V a b (i + 1) = partL V a b i ++ [V i]) := Lib.hid (partL_hit hin)
        have hm4 : m ≤ 4194304 := by omega
        obtain ⟨x, hx⟩ : ∃ x, V i = x := ⟨_, rfl⟩
        rw [hx] at hc HP
        obtain ⟨g3, g4⟩ := hin
        clear hx
        go_wp2_with (at_builtin; refine step_append_int rfl (.tmp 25) (.tmp 27) rfl rfl hrow.out.2 x rfl hbs hm4 ?_; intro v3 w3 hown3 hb3)
        go_roundw
        case rel => exact ⟨i + 1, m + 1, by omega, by omega, by go_num, Lib.hid ⟨by rw [HP.out, List.length_append, hrow.out.1]; rfl, by
          have h := hown3.out
          have e := hrow.out.1
          subst e
          rw [HP.out, icells_litI_snoc]
          exact h⟩, Lib.hid (hb.out.trans hb3)⟩
        case measure => simp [intOf]; omega
      · have HP : Hid (partL V a b (i + 1) = partL V a b i) := Lib.hid (partL_miss hin)
        have HR2 : Hid (m = (partL V a b (i + 1)).length ∧ wr.ownsRow w.heap.size 3 1 u7 m (icells (litI (partL V a b (i + 1))) m)) := Lib.hid (by rw [HP.out]; exact hrow.out)
        by_cases h1 : a ≤ (i : Int)
        · have g1 : decide (a ≤ (i : Int)) = true := decide_eq_true h1
          have g2 : decide ((i : Int) < b) = false := decide_eq_false fun h => hin ⟨h1, h⟩
          clear hrow hin
          go_wp2_with fail
          go_roundw
          case rel => exact ⟨i + 1, m, by omega, by omega, by go_num, HR2, hb⟩
          case measure => simp [intOf]; omega
        · have g1 : decide (a ≤ (i : Int)) = false := decide_eq_false h1
          clear hrow hin
          go_wp2_with fail
          go_roundw
          case rel => exact ⟨i + 1, m, by omega, by omega, by go_num, HR2, hb⟩
          case measure => simp [intOf]; omega
    · have hin : i = n := by omega
      have hge : ¬ (i : Int) < (n : Int) := by omega
      rw [hin] at hrow
      clear hin
      go_wp2_with fail
      go_ret
      obtain ⟨e, h⟩ := hrow.out
      subst e
      exact ⟨_, rfl, h, hb.out⟩

theorem insL_row {x : Int} {S : List Int} {p k : Nat} (h1 : ∀ j y, j < p → S[j]? = some y → y ≤ x) (hp : p ≤ S.length) (h2 : ∀ y, S[p]? = some y → x < y) (hk : k < S.length + 1) : litI (insL x S) k = if k = p then x else if p < k then litI S (k - 1) else litI S k := by
  rw [insL_at h1 hp h2]
  have hlt : (S.take p).length = p := by rw [List.length_take]; omega
  by_cases e : k = p
  · rw [if_pos e]
    exact litI_at (by rw [List.getElem?_append_right (by omega), hlt, e, Nat.sub_self]; rfl)
  · rw [if_neg e]
    by_cases g : p < k
    · rw [if_pos g]
      refine litI_at ?_
      rw [List.getElem?_append_right (by omega), hlt, show k - p = (k - 1 - p) + 1 by omega, List.getElem?_cons_succ, List.getElem?_drop, show p + (k - 1 - p) = k - 1 by omega]
      exact litI_some (by omega)
    · rw [if_neg g]
      refine litI_at ?_
      rw [List.getElem?_append_left (by omega), List.getElem?_take, if_pos (by omega)]
      exact litI_some (by omega)
set_option maxRecDepth 100000 in
set_option maxHeartbeats 3200000 in
theorem refSortedW_any (A : Option Addr) (n c : Nat) (V : Nat → Int) (w : World) (hn : n ≤ 4000000) (ho : Its w w.heap.size A n V) :
    Calls Try.prog 36 #[.slice A n c] w fun e w' => ∃ u : Value, e = .returned u ∧ w'.ownsRow w.heap.size 3 1 u n (icells (litI (sortL (takeL V n))) n) ∧ Below w.heap.size w w' := by
  have HO := Lib.hid ho
  obtain ⟨B, hB⟩ : ∃ B, w.heap.size = B := ⟨_, rfl⟩
  rw [hB] at HO ⊢
  clear ho
  go_enter Try.func36, Try.ntmps36
  go_wp2_with fail
  go_loopw [3, 10] (fun u v wr => ∃ i : Nat, i ≤ n ∧ v = .int .i64 (i : Int) ∧ Hid (wr.ownsRow B 3 1 u i (icells (litI (sortL (takeL V i))) i)) ∧ Hid (Below B w wr)) (fun _ v _ => n - (intOf v).toNat)
  case atStart => exact ⟨0, Nat.zero_le _, rfl, Lib.hid (World.ownsRow_nil w _ _ _), Lib.hid (Below.refl _ _)⟩
  case round =>
    obtain ⟨i, hi, rfl, hrow, hb⟩ := hrel
    by_cases hlt : i < n
    · have hlti : (i : Int) < (n : Int) := by omega
      obtain ⟨ad, rfl, _, hc, _⟩ := HO.out.below hb.out i hlt
      obtain ⟨x, hx⟩ : ∃ x, V i = x := ⟨_, rfl⟩
      rw [hx] at hc
      obtain ⟨S, hS⟩ : ∃ S, sortL (takeL V i) = S := ⟨_, rfl⟩
      have hSl : S.length = i := by rw [← hS, sortL_length, takeL_length]
      have HNext : Hid (sortL (takeL V (i + 1)) = insL x S) := Lib.hid (by rw [← hS, ← hx]; exact sortL_snoc _ _)
      rw [hS] at hrow
      have HSl := Lib.hid hSl
      obtain ⟨X, cx, hX⟩ := owns_slice hrow.out
      subst hX
      have hBw : B ≤ wr.heap.size := by have := hb.out.size; omega
      clear hx hS hSl
      go_upto_block 2 with (fail)
      go_cut [6] from 14 to 27 (fun v wx => ∃ p : Nat, p ≤ i ∧ v = .int .i64 (p : Int) ∧ wx = wr ∧ Hid (∀ k, k < i + 1 → litI (insL x S) k = if k = p then x else if p < k then litI S (k - 1) else litI S k))
      case first =>
        go_wp2_with fail
        go_loop [6] (fun v => ∃ p : Nat, p ≤ i ∧ v = .int .i64 (p : Int) ∧ Hid (∀ j y, j < p → S[j]? = some y → y ≤ x)) (fun v => i - (intOf v).toNat)
        case atStart => exact ⟨0, Nat.zero_le _, rfl, Lib.hid fun j y hj _ => absurd hj (Nat.not_lt_zero j)⟩
        case round =>
          obtain ⟨p, hp, rfl, hlow⟩ := hrel
          have tail : (∀ y, S[p]? = some y → x < y) → Hid (∀ k, k < i + 1 → litI (insL x S) k = if k = p then x else if p < k then litI S (k - 1) else litI S k) := fun h2 => Lib.hid fun k hk => insL_row hlow.out (by rw [HSl.out]; exact hp) h2 (by rw [HSl.out]; exact hk)
          have HTail := Lib.hid tail
          clear tail
          by_cases hpi : p < i
          · have hpii : (p : Int) < (i : Int) := by omega
            obtain ⟨g, c', e', _⟩ := owns_some hrow.out (by omega)
            cases e'
            have hcp : wr.cell? ⟨g, p, none⟩ = some (.int .i64 (litI S p)) := by
              rw [hrow.out.cellAt p (by omega)]
              exact icells_at _ _ _ hpi
            have hSp := litI_some (l := S) (k := p) (by rw [HSl.out]; exact hpi)
            obtain ⟨y, hy⟩ : ∃ y, litI S p = y := ⟨_, rfl⟩
            rw [hy] at hcp hSp
            by_cases hyx : y ≤ x
            · have g1 : decide (y ≤ x) = true := decide_eq_true hyx
              have HL2 : Hid (∀ j z, j < p + 1 → S[j]? = some z → z ≤ x) := Lib.hid fun j z hj hz => by
                by_cases e : j = p
                · rw [e, hSp] at hz
                  cases hz
                  exact hyx
                · exact hlow.out j z (by omega) hz
              clear hlow HTail hSp hy
              go_wp2_with fail
              go_round
              case rel => exact ⟨p + 1, by omega, by go_num, HL2⟩
              case measure => simp [intOf]; omega
            · have g1 : decide (y ≤ x) = false := decide_eq_false hyx
              have HT := HTail.out fun z hz => by
                rw [hSp] at hz
                cases hz
                omega
              clear hlow HTail hSp hy
              go_wp2_with fail
              go_meet
              exact ⟨p, hp, rfl, rfl, HT⟩
          · have g1 : decide ((p : Int) < (i : Int)) = false := decide_eq_false (by omega)
            have g1' : ¬ (p : Int) < (i : Int) := by omega
            have HT := HTail.out fun z hz => by
              have := HSl.out
              rw [List.getElem?_eq_none (by omega)] at hz
              cases hz
            clear hlow HTail
            go_wp2_with fail
            go_meet
            exact ⟨p, hp, rfl, rfl, HT⟩
      case rest =>
        obtain ⟨p, hp, rfl, rfl, HT⟩ := hcut
        have hi4 : i ≤ 4194304 := by omega
        have w1 : IntKind.i64.wrap (((i + 1 : Nat) : Int) - 1) = (i : Int) := by rw [IntWalk.i64_in _ (by omega)]; omega
        obtain ⟨m, hm⟩ : ∃ m, i + 1 = m := ⟨_, rfl⟩
        have HM := Lib.hid hm
        have him : i < m := by omega
        have hm4 : m ≤ 4194304 := by omega
        rw [hm] at w1 HT HNext
        go_wp2_with (at_builtin; refine step_append_int rfl (.tmp 28) (.tmp 29) rfl rfl hrow.out 0 rfl hBw hi4 ?_; intro v4 w4 hown4 hb4; obtain ⟨g, cg, hv4, hBg, _⟩ := owns_some hown4.out (by omega); subst hv4; rw [hm] at hown4)
        have HB4 : Hid (Below B w w4) := Lib.hid (hb.out.trans hb4)
        have HR4 : Hid (∃ U, w4.ownsRow B 3 1 (.slice (some ⟨g, 0, none⟩) m cg) m (icells U m) ∧ ∀ k, k < m → U k = if i < k then litI S (k - 1) else if k < i then litI S k else 0) := Lib.hid ⟨litI (S ++ [0]), by
          have h := hown4.out
          have e := HSl.out
          have e2 := HM.out
          subst e
          subst e2
          rw [icells_litI_snoc]
          exact h, fun k hk => by
          have e := HSl.out
          rw [if_neg (by omega)]
          by_cases g1 : k < i
          · rw [if_pos g1]
            exact litI_at (by rw [List.getElem?_append_left (by omega)]; exact litI_some (by omega))
          · rw [if_neg g1]
            exact litI_at (by rw [List.getElem?_append_right (by omega), show k - S.length = 0 by omega]; rfl)⟩
        clear hm hrow hown4 hb4 hb hc HSl
        rename World => wz
        go_loopw [7] (fun v wr => ∃ q : Nat, p ≤ q ∧ q ≤ i ∧ v = .int .i64 (q : Int) ∧ Hid (∃ U, wr.ownsRow B 3 1 (.slice (some ⟨g, 0, none⟩) m cg) m (icells U m) ∧ ∀ k, k < m → U k = if q < k then litI S (k - 1) else if k < i then litI S k else 0) ∧ Hid (Below B w wr)) (fun v _ => (intOf v).toNat)
        case atStart => exact ⟨i, hp, Nat.le_refl _, rfl, HR4, HB4⟩
        case round =>
          clear HR4 HB4
          obtain ⟨q, hpq, hqi, rfl, hU, hb⟩ := hrel
          obtain ⟨U, hR, hU⟩ := hU.out
          by_cases hlt2 : p < q
          · have hlti2 : (p : Int) < (q : Int) := by omega
            obtain ⟨q', rfl⟩ : ∃ q', q = q' + 1 := ⟨q - 1, by omega⟩
            have w2 : IntKind.i64.wrap (((q' + 1 : Nat) : Int) - 1) = (q' : Int) := by rw [IntWalk.i64_in _ (by omega)]; omega
            have c1 : wr.cell? ⟨g, q', none⟩ = some (.int .i64 (litI S q')) := by
              rw [hR.cellAt q' (by omega), icells_at _ _ _ (by omega), hU q' (by omega), if_neg (by omega), if_pos (by omega)]
            have c2 : wr.cell? ⟨g, q' + 1, none⟩ = some (.int .i64 (U (q' + 1))) := by
              rw [hR.cellAt (q' + 1) (by omega)]
              exact icells_at _ _ _ (by omega)
            have f2 := owns_free hR (q' + 1)
            have HN : Hid (∃ U', (wr.setCell ⟨g, q' + 1, none⟩ (.int .i64 (litI S q'))).ownsRow B 3 1 (.slice (some ⟨g, 0, none⟩) m cg) m (icells U' m) ∧ ∀ k, k < m → U' k = if q' < k then litI S (k - 1) else if k < i then litI S k else 0) := Lib.hid ⟨_, by
              have := owns_put hR (q' + 1) (.int .i64 (litI S q'))
              rw [icells_put] at this
              exact this, fun k hk => by
              by_cases e : k = q' + 1
              · rw [if_pos e, if_pos (by omega), e]
                rfl
              · rw [if_neg e, hU k hk]
                by_cases g1 : q' + 1 < k
                · rw [if_pos g1, if_pos (show q' < k by omega)]
                · rw [if_neg g1, if_neg (show ¬ q' < k by omega)]⟩
            have HB2 : Hid (Below B w (wr.setCell ⟨g, q' + 1, none⟩ (.int .i64 (litI S q')))) := Lib.hid (hb.out.setCell (p := ⟨g, q' + 1, none⟩) hBg _)
            generalize litI S q' = y at c1 HN HB2
            generalize U (q' + 1) = z at c2
            generalize hq1 : q' + 1 = q1 at w2 c2 f2 HN HB2 hlti2 hlt2 hqi hpq
            have b1 : (q' : Int) < (m : Int) := by omega
            have b2 : (q1 : Int) < (m : Int) := by omega
            have b3 : q' < m := by omega
            have b4 : q1 < m := by omega
            have b5 : p ≤ q' := by omega
            have b6 : q' ≤ i := by omega
            have b7 : q' < q1 := by omega
            clear hU hR hb hq1
            go_wp2_with fail
            go_roundw
            case rel => exact ⟨q', b5, b6, rfl, HN, HB2⟩
            case measure => simp [intOf]; omega
          · have hqp : q = p := by omega
            have hge : ¬ (p : Int) < (q : Int) := by omega
            have hpm : p < m := by omega
            have c2 : wr.cell? ⟨g, p, none⟩ = some (.int .i64 (U p)) := by
              rw [hR.cellAt p (by omega)]
              exact icells_at _ _ _ (by omega)
            have f2 := owns_free hR p
            have HN : Hid ((wr.setCell ⟨g, p, none⟩ (.int .i64 x)).ownsRow B 3 1 (.slice (some ⟨g, 0, none⟩) m cg) m (icells (litI (sortL (takeL V m))) m)) := Lib.hid (by
              have := owns_put hR p (.int .i64 x)
              rw [icells_put] at this
              rw [HNext.out, icells_congr (U := litI (insL x S)) (U' := fun k => if k = p then x else U k) (fun k hk => by
                rw [HT.out k hk, hU k hk]
                have := HM.out
                by_cases e : k = p
                · rw [if_pos e, if_pos e]
                · rw [if_neg e, if_neg e]
                  by_cases g1 : p < k
                  · rw [if_pos g1, if_pos (show q < k by omega)]
                  · rw [if_neg g1, if_neg (show ¬ q < k by omega), if_pos (show k < i by omega)])]
              exact this)
            have HB2 : Hid (Below B w (wr.setCell ⟨g, p, none⟩ (.int .i64 x))) := Lib.hid (hb.out.setCell (p := ⟨g, p, none⟩) hBg _)
            generalize U p = z at c2
            have b1 : (p : Int) < (m : Int) := by omega
            have hmn : m ≤ n := by have := HM.out; omega
            have him2 : i < m := him
            clear hU hR hb hqp HT HNext
            go_wp2_with fail
            go_roundw
            case rel => exact ⟨m, hmn, by rw [← HM.out]; go_num, HN, HB2⟩
            case measure => simp [intOf]; omega
    · have hin : i = n := by omega
      have hge : ¬ (i : Int) < (n : Int) := by omega
      rw [hin] at hrow
      clear hin
      go_wp2_with fail
      go_ret
      exact ⟨_, rfl, hrow.out, hb.out⟩
end Go.Proofs.Ythbnojhcmfhnhaa
