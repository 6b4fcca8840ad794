/- The document's least number of a range; what layer 14's laws ask of package rmq, as one word (RmqI), over any 'At' (a table lies at a pointer); the laws' opening. -/
import Derived.Test.YtmjcjelempidfaaRmqMath
import Derived.Test.YtmjcjelempidfaaSufI
import Derived.Test.YtmjcjelempidfaaListR
import Derived.Deep.QuietTactic
import Derived.BigQuiet
namespace Go.Proofs.Ytmjcjelempidfaa
open Go.RowKit

set_option maxRecDepth 100000 in
set_option maxHeartbeats 1600000 in
theorem refLeastR_any (A : Option Addr) (n c : Nat) (V : Nat → Int) (a b : Int) (B : Nat) (w : World) (hn : n ≤ 4194304) (ho : Its w B A n V) :
    Calls Try.prog 11 #[.slice A n c, .int .i64 a, .int .i64 b] w fun e w' => e = .returned (.int .i64 (lstR V a b n)) ∧ w = w' := by
  have HO := Lib.hid ho
  clear ho
  obtain ⟨r, hr⟩ : ∃ r, lstR V a b n = r := ⟨_, rfl⟩
  rw [hr]
  have HR := Lib.hid hr
  clear hr
  go_enter Try.func11, Try.ntmps11
  go_wp2_with fail
  go_loop [7, 12] (fun u v => ∃ (i : Nat) (x : Int), i ≤ n ∧ u = .int .i64 x ∧ v = .int .i64 (i : Int) ∧ Hid (x = lstR V a b i)) (fun _ v => n - (intOf v).toNat)
  case atStart => exact ⟨0, -1, Nat.zero_le _, rfl, rfl, Lib.hid rfl⟩
  case round =>
    obtain ⟨i, x, hi, rfl, rfl, hx⟩ := hrel
    by_cases hlt : i < n
    · have hlti : (i : Int) < (n : Int) := by omega
      obtain ⟨ad, rfl, _, c1, _⟩ := HO.out i hlt
      by_cases h2 : a ≤ (i : Int)
      · have g2 : decide (a ≤ (i : Int)) = true := decide_eq_true h2
        by_cases h3 : (i : Int) < b
        · have g3 : decide ((i : Int) < b) = true := decide_eq_true h3
          rcases lstR_is V a b i with ⟨e1, _⟩ | ⟨p, e1, e2⟩
          · have HN : Hid ((i : Int) = lstR V a b (i + 1)) := Lib.hid (lstR_new ⟨h2, h3⟩ (.inl (by rw [e1]; decide))).symm
            obtain rfl : x = -1 := hx.out.trans e1
            generalize V i = y at c1
            clear e1 hx
            go_wp2_with fail
            go_round
            case rel => exact ⟨i + 1, _, by omega, rfl, by go_num, HN⟩
            case measure => simp [intOf]; omega
          · obtain rfl : x = (p : Int) := hx.out.trans e1
            have hpi := e2.lt
            have hpn : (p : Int) < (n : Int) := by omega
            have gp : decide ((p : Int) < 0) = false := decide_eq_false (by omega)
            obtain ⟨ad', e3, _, c2, _⟩ := HO.out p (by omega)
            cases e3
            by_cases hv : V i < V p
            · have HN : Hid ((i : Int) = lstR V a b (i + 1)) := Lib.hid (lstR_new ⟨h2, h3⟩ (.inr (by rw [e1, Int.toNat_natCast]; exact hv))).symm
              have gv : decide (V i < V p) = true := decide_eq_true hv
              generalize V i = y at c1 gv hv
              generalize V p = z at c2 gv hv
              clear e1 e2 hx
              go_wp2_with fail
              go_round
              case rel => exact ⟨i + 1, _, by omega, rfl, by go_num, HN⟩
              case measure => simp [intOf]; omega
            · have HN : Hid ((p : Int) = lstR V a b (i + 1)) := Lib.hid ((lstR_old (by rw [e1, Int.toNat_natCast]; omega)).trans e1).symm
              have gv : decide (V i < V p) = false := decide_eq_false hv
              generalize V i = y at c1 gv hv
              generalize V p = z at c2 gv hv
              clear e1 e2 hx
              go_wp2_with fail
              go_round
              case rel => exact ⟨i + 1, _, by omega, rfl, by go_num, HN⟩
              case measure => simp [intOf]; omega
        · have g3 : decide ((i : Int) < b) = false := decide_eq_false h3
          have HN : Hid (x = lstR V a b (i + 1)) := Lib.hid (by rw [lstR_out (fun g => h3 g.2)]; exact hx.out)
          generalize V i = y at c1
          clear hx
          go_wp2_with fail
          go_round
          case rel => exact ⟨i + 1, _, by omega, rfl, by go_num, HN⟩
          case measure => simp [intOf]; omega
      · have g2 : decide (a ≤ (i : Int)) = false := decide_eq_false h2
        have HN : Hid (x = lstR V a b (i + 1)) := Lib.hid (by rw [lstR_out (fun g => h2 g.1)]; exact hx.out)
        generalize V i = y at c1
        clear hx
        go_wp2_with fail
        go_round
        case rel => exact ⟨i + 1, _, by omega, rfl, by go_num, HN⟩
        case measure => simp [intOf]; omega
    · obtain rfl : i = n := by omega
      have hge : ¬ (i : Int) < (i : Int) := by omega
      obtain rfl : x = r := by rw [hx.out, HR.out]
      clear hx
      go_wp2_with fail
      go_ret
      exact ⟨rfl, rfl⟩

/-- what package rmq answers. At B w v n V: a table of the first n numbers of V lies at v, all of it in blocks from B on. -/
structure RmqI (At : Nat → World → Value → Nat → (Nat → Int) → Prop) : Prop where
  keep_ : ∀ {B : Nat} {w w' : World} {v : Value} {n : Nat} {V : Nat → Int}, At B w v n V → w.heap.size ≤ w'.heap.size → (∀ k, B ≤ k → k < w.heap.size → w'.heap[k]? = w.heap[k]?) → At B w' v n V
  ptr : ∀ {B : Nat} {w : World} {v : Value} {n : Nat} {V : Nat → Int}, At B w v n V → ∃ a, v = .pointer (some a)
  new : ∀ (A : Option Addr) (n c : Nat) (V : Nat → Int) (w : World), n ≤ 4194303 → ItsR w A n c V → Calls Try.prog 8 #[.slice A n c] w fun e w' => (∃ v, e = .returned (.tuple #[v, .int .i64 0]) ∧ At w.heap.size w' v n V) ∧ Below w.heap.size w w'
  len_ : ∀ (B : Nat) (v : Value) (n : Nat) (V : Nat → Int) (w : World), At B w v n V → Calls Try.prog 9 #[v] w fun e w' => e = .returned (.int .i64 (n : Int)) ∧ Below w.heap.size w w'
  least : ∀ (B : Nat) (v : Value) (n : Nat) (V : Nat → Int) (a b : Int) (w : World), (Lit.int .i64 a).wf = true → (Lit.int .i64 b).wf = true → At B w v n V → Calls Try.prog 10 #[v, .int .i64 a, .int .i64 b] w fun e w' => e = .returned (.int .i64 (lstR V a b n)) ∧ Below w.heap.size w w'
section
variable {At : Nat → World → Value → Nat → (Nat → Int) → Prop}
theorem RmqI.keep (I : RmqI At) {B : Nat} {w w' : World} {v : Value} {n : Nat} {V : Nat → Int} (h : At B w v n V) (hb : Below w.heap.size w w') : At B w' v n V := I.keep_ h hb.size fun k _ hk => hb.block k hk
/-- the chapter's example. -/
def rxV : Nat → Int := litI [3, 1, 2, 1]
set_option maxRecDepth 100000 in
set_option maxHeartbeats 1600000 in
theorem rqfirst_any (I : RmqI At) (w : World) : Calls Try.prog 7 #[] w fun e w' => e = .returned (.bool true) ∧ Below w.heap.size w w' := by
  have HI := Lib.hid I
  have hb1 : Below w.heap.size w (w.alloc (.cells #[.int .i64 3, .int .i64 1, .int .i64 2, .int .i64 1] 3)) := (Below.refl _ _).alloc (Nat.le_refl _) _
  have i1 : ItsR (w.alloc (.cells #[.int .i64 3, .int .i64 1, .int .i64 2, .int .i64 1] 3)) (some ⟨w.heap.size, 0, none⟩) 4 4 rxV := ⟨fun e => (by cases e), Nat.le_refl _, by unfold maxLen; decide, its_lit w [3, 1, 2, 1] (by decide)⟩
  have HN := Lib.hid (HI.out.new _ 4 4 rxV _ (by decide) i1)
  clear I i1
  go_enter Try.func7, Try.ntmps7
  go_wp2_with fail
  refine HN.out.mono ?_
  rintro e w1 ⟨⟨v, rfl, hAt⟩, hb2⟩
  obtain ⟨pa, rfl⟩ := HI.out.ptr hAt
  have HB1 := Lib.hid (hb1.trans (hb2.mono hb1.size))
  have HA1 := Lib.hid hAt
  have H1 := HI.out.least _ _ _ _ 0 4 w1 (by decide) (by decide) hAt
  rw [show lstR rxV 0 4 4 = 1 by decide] at H1
  have H1 := Lib.hid H1
  clear hb1 hb2 hAt HN
  go_wp2_with fail
  refine H1.out.mono ?_
  rintro e w2 ⟨rfl, hb2⟩
  have HB2 := Lib.hid (HB1.out.trans (hb2.mono HB1.out.size))
  have HA2 := Lib.hid (HI.out.keep HA1.out hb2)
  have H2 := HI.out.least _ _ _ _ 2 4 w2 (by decide) (by decide) HA2.out
  rw [show lstR rxV 2 4 4 = 3 by decide] at H2
  have H2 := Lib.hid H2
  clear hb2 H1 HB1 HA1
  go_wp2_with fail
  refine H2.out.mono ?_
  rintro e w3 ⟨rfl, hb3⟩
  have HB3 := Lib.hid (HB2.out.trans (hb3.mono HB2.out.size))
  have HA3 := Lib.hid (HI.out.keep HA2.out hb3)
  have H3 := HI.out.least _ _ _ _ 2 2 w3 (by decide) (by decide) HA3.out
  rw [show lstR rxV 2 2 4 = -1 by decide] at H3
  have H3 := Lib.hid H3
  clear hb3 H2 HB2 HA2
  go_wp2_with fail
  refine H3.out.mono ?_
  rintro e w4 ⟨rfl, hb4⟩
  have HB4 := Lib.hid (HB3.out.trans (hb4.mono HB3.out.size))
  have HA4 := Lib.hid (HI.out.keep HA3.out hb4)
  have H4 := Lib.hid (HI.out.len_ _ _ _ _ w4 HA4.out)
  clear hb4 H3 HB3 HA3
  go_wp2_with fail
  refine H4.out.mono ?_
  rintro e w5 ⟨rfl, hb5⟩
  have HB5 := Lib.hid (HB4.out.trans (hb5.mono HB4.out.size))
  clear hb5 H4 HB4 HA4
  go_wp2_with fail
  go_ret
  exact ⟨rfl, HB5.out⟩
end
end Go.Proofs.Ytmjcjelempidfaa
