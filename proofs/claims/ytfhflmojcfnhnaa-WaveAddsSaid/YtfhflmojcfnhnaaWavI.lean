/- What layer 13's laws ask of package wave, as one word (WaveI), over any 'At' (a matrix lies at a pointer) and any 'Vt' (a list of bits does); the laws' opening; made, right. -/
import Derived.Test.YtfhflmojcfnhnaaWavPairs
import Derived.Test.YtfhflmojcfnhnaaWavNar
namespace Go.Proofs.Ytfhflmojcfnhnaa
open Go.RowKit

/-- may a row be a matrix? -/
def RightW (V : Nat → Int) (n : Nat) (most : Int) : Prop := 0 ≤ most ∧ most < 4194304 ∧ n ≤ 4194304 ∧ ∀ i, i < n → 0 ≤ V i ∧ V i ≤ most
theorem rightW_is {V : Nat → Int} {n : Nat} {most : Int} : RightW V n most ↔ (0 ≤ most ∧ most < 4194304) ∧ RightS V n (most + 1) :=
  ⟨fun h => ⟨⟨h.1, h.2.1⟩, ⟨by have := h.1; omega, by have := h.2.1; omega, h.2.2.1⟩, fun i hi => by have := h.2.2.2 i hi; omega⟩,
   fun h => ⟨h.1.1, h.1.2, h.2.1.2.2, fun i hi => by have := h.2.2 i hi; omega⟩⟩
/-- the number at a place; -1: none. -/
def atI (V : Nat → Int) (n : Nat) (i : Int) : Int := if 0 ≤ i ∧ i < (n : Int) then V i.toNat else -1
/-- what package wave answers. At B w v n V m: a matrix of the first n numbers of V, none more than m, lies at v, all of it in blocks from B on. Vt B w v n f: so does a list of bits. -/
structure WaveI (At : Nat → World → Value → Nat → (Nat → Int) → Nat → Prop) (Vt : Nat → World → Value → Nat → (Nat → Bool) → Prop) : Prop where
  keep_ : ∀ {B : Nat} {w w' : World} {v : Value} {n m : Nat} {V : Nat → Int}, At B w v n V m → w.heap.size ≤ w'.heap.size → (∀ k, B ≤ k → k < w.heap.size → w'.heap[k]? = w.heap[k]?) → At B w' v n V m
  ptr : ∀ {B : Nat} {w : World} {v : Value} {n m : Nat} {V : Nat → Int}, At B w v n V m → ∃ a, v = .pointer (some a)
  keepV : ∀ {B : Nat} {w w' : World} {v : Value} {n : Nat} {f : Nat → Bool}, Vt B w v n f → w.heap.size ≤ w'.heap.size → (∀ k, B ≤ k → k < w.heap.size → w'.heap[k]? = w.heap[k]?) → Vt B w' v n f
  new : ∀ (A : Option Addr) (n c : Nat) (V : Nat → Int) (most : Int) (w : World), n ≤ 4194303 → (Lit.int .i64 most).wf = true → ItsR w A n c V → Calls Try.prog 29 #[.slice A n c, .int .i64 most] w fun e w' =>
    (RightW V n most → ∃ v, e = .returned (.tuple #[v, .int .i64 0]) ∧ At w.heap.size w' v n V most.toNat) ∧ (¬ RightW V n most → e = .returned (.tuple #[.pointer none, .int .i64 2])) ∧ Below w.heap.size w w'
  len_ : ∀ (B : Nat) (v : Value) (n m : Nat) (V : Nat → Int) (w : World), At B w v n V m → Calls Try.prog 15 #[v] w fun e w' => e = .returned (.int .i64 (n : Int)) ∧ Below w.heap.size w w'
  at_ : ∀ (B : Nat) (v : Value) (n m : Nat) (V : Nat → Int) (i : Int) (w : World), (Lit.int .i64 i).wf = true → At B w v n V m → Calls Try.prog 18 #[v, .int .i64 i] w fun e w' => e = .returned (.int .i64 (atI V n i)) ∧ Below w.heap.size w w'
  rank_ : ∀ (B : Nat) (v : Value) (n m : Nat) (V : Nat → Int) (c i : Int) (w : World), (Lit.int .i64 c).wf = true → (Lit.int .i64 i).wf = true → At B w v n V m → Calls Try.prog 19 #[v, .int .i64 c, .int .i64 i] w fun e w' => e = .returned (.int .i64 ((cntR V c 0 i n : Nat) : Int)) ∧ Below w.heap.size w w'
  select : ∀ (B : Nat) (v : Value) (n m : Nat) (V : Nat → Int) (c k : Int) (w : World), (Lit.int .i64 c).wf = true → (Lit.int .i64 k).wf = true → At B w v n V m → Calls Try.prog 21 #[v, .int .i64 c, .int .i64 k] w fun e w' => e = .returned (.int .i64 (selW V n c k)) ∧ Below w.heap.size w w'
  quantile : ∀ (B : Nat) (v : Value) (n m : Nat) (V : Nat → Int) (a b k : Int) (w : World), (Lit.int .i64 a).wf = true → (Lit.int .i64 b).wf = true → (Lit.int .i64 k).wf = true → At B w v n V m → Calls Try.prog 24 #[v, .int .i64 a, .int .i64 b, .int .i64 k] w fun e w' => e = .returned (.int .i64 (quantI V n a b k)) ∧ Below w.heap.size w w'
  below : ∀ (B : Nat) (v : Value) (n m : Nat) (V : Nat → Int) (a b c : Int) (w : World), (Lit.int .i64 a).wf = true → (Lit.int .i64 b).wf = true → (Lit.int .i64 c).wf = true → At B w v n V m → Calls Try.prog 25 #[v, .int .i64 a, .int .i64 b, .int .i64 c] w fun e w' => e = .returned (.int .i64 ((lessR V a b c n : Nat) : Int)) ∧ Below w.heap.size w w'
  distinct : ∀ (B : Nat) (v : Value) (n m : Nat) (V : Nat → Int) (a b : Int) (w : World), (Lit.int .i64 a).wf = true → (Lit.int .i64 b).wf = true → At B w v n V m → Calls Try.prog 27 #[v, .int .i64 a, .int .i64 b] w fun e w' => (∃ (A : Option Addr) (c : Nat) (D : List (Int × Nat)), e = .returned (.slice A D.length c) ∧ PairsOf (partL V a b n) D ∧ PrsR w' A D) ∧ Below w.heap.size w w'
  levels : ∀ (B : Nat) (v : Value) (n m : Nat) (V : Nat → Int) (w : World), At B w v n V m → Calls Try.prog 14 #[v] w fun e w' => (∃ (A : Option Addr) (c : Nat), e = .returned (.slice A (widthN m) c) ∧ ∀ k, k < widthN m → ∃ (ad : Addr) (x : Value), A = some ad ∧ ad.block < w'.heap.size ∧ w'.cell? (ad.add k) = some x ∧ Vt B w' x n (levBit V n (widthN m) k)) ∧ Below w.heap.size w w'
  vlen : ∀ (B : Nat) (v : Value) (n : Nat) (f : Nat → Bool) (w : World), Vt B w v n f → Calls Try.prog 16 #[v] w fun e w' => e = .returned (.int .i64 (n : Int)) ∧ Below w.heap.size w w'
  vat : ∀ (B : Nat) (v : Value) (n : Nat) (f : Nat → Bool) (i : Nat) (w : World), i < n → Vt B w v n f → Calls Try.prog 17 #[v, .int .i64 (i : Int)] w fun e w' => e = .returned (.bool (f i)) ∧ Below w.heap.size w w'
  nilLen : ∀ w : World, Calls Try.prog 15 #[.pointer none] w fun e w' => e = .returned (.int .i64 0) ∧ Below w.heap.size w w'
  nilLevels : ∀ w : World, Calls Try.prog 14 #[.pointer none] w fun e w' => (∃ (A : Option Addr) (c : Nat), e = .returned (.slice A 0 c)) ∧ Below w.heap.size w w'
  nilAt : ∀ (i : Int) (w : World), Calls Try.prog 18 #[.pointer none, .int .i64 i] w fun e w' => e = .returned (.int .i64 (-1)) ∧ Below w.heap.size w w'
  nilRank : ∀ (c i : Int) (w : World), Calls Try.prog 19 #[.pointer none, .int .i64 c, .int .i64 i] w fun e w' => e = .returned (.int .i64 0) ∧ Below w.heap.size w w'
  nilSelect : ∀ (c k : Int) (w : World), Calls Try.prog 21 #[.pointer none, .int .i64 c, .int .i64 k] w fun e w' => e = .returned (.int .i64 (-1)) ∧ Below w.heap.size w w'
  nilQuantile : ∀ (a b k : Int) (w : World), Calls Try.prog 24 #[.pointer none, .int .i64 a, .int .i64 b, .int .i64 k] w fun e w' => e = .returned (.int .i64 (-1)) ∧ Below w.heap.size w w'
  nilBelow : ∀ (a b c : Int) (w : World), Calls Try.prog 25 #[.pointer none, .int .i64 a, .int .i64 b, .int .i64 c] w fun e w' => e = .returned (.int .i64 0) ∧ Below w.heap.size w w'
  nilDistinct : ∀ (a b : Int) (w : World), Calls Try.prog 27 #[.pointer none, .int .i64 a, .int .i64 b] w fun e w' => (∃ (A : Option Addr) (c : Nat), e = .returned (.slice A 0 c)) ∧ Below w.heap.size w w'
section
variable {At : Nat → World → Value → Nat → (Nat → Int) → Nat → Prop} {Vt : Nat → World → Value → Nat → (Nat → Bool) → Prop}
theorem WaveI.keep (I : WaveI At Vt) {B : Nat} {w w' : World} {v : Value} {n m : Nat} {V : Nat → Int} (h : At B w v n V m) (hb : Below w.heap.size w w') : At B w' v n V m := I.keep_ h hb.size fun k _ hk => hb.block k hk
theorem WaveI.keepVB (I : WaveI At Vt) {B : Nat} {w w' : World} {v : Value} {n : Nat} {f : Nat → Bool} (h : Vt B w v n f) (hb : Below w.heap.size w w') : Vt B w' v n f := I.keepV h hb.size fun k _ hk => hb.block k hk

set_option maxRecDepth 100000 in
set_option maxHeartbeats 800000 in
theorem wright_is (A : Option Addr) (n c : Nat) (V : Nat → Int) (most : Int) (w : World) (hn : n ≤ maxLen) (hm : (Lit.int .i64 most).wf = true) (ho : Its w w.heap.size A n V) (r : Bool) (hr : r = true ↔ RightW V n most) :
    Calls Try.prog 12 #[.slice A n c, .int .i64 most] w fun e w' => e = .returned (.bool r) ∧ Below w.heap.size w w' := by
  have hmb := i64_in hm
  by_cases h0 : 0 ≤ most ∧ most < 4194304
  · obtain ⟨h1, h2⟩ := h0
    have g1 : decide ((0 : Int) ≤ most) = true := decide_eq_true h1
    have g2 : decide (most < 4194304) = true := decide_eq_true h2
    have w1 : IntKind.i64.wrap (most + 1) = most + 1 := IntWalk.i64_in _ (by omega)
    have HR := Lib.hid (refRightS_is A n c V (most + 1) _ w hn ho r (by rw [hr, rightW_is]; exact ⟨fun h => h.2, fun h => ⟨⟨h1, h2⟩, h⟩⟩))
    clear ho hr hm
    go_enter Try.func12, Try.ntmps12
    go_wp2_with fail
    refine HR.out.mono ?_
    rintro e w' ⟨rfl, rfl⟩
    go_wp2_with fail
    go_ret
    exact ⟨rfl, Below.refl _ _⟩
  · obtain rfl : r = false := Bool.eq_false_iff.2 fun h => h0 ⟨(hr.1 h).1, (hr.1 h).2.1⟩
    have hcond : decide ((0 : Int) ≤ most) = false ∨ (decide ((0 : Int) ≤ most) = true ∧ decide (most < 4194304) = false) := by
      by_cases h : 0 ≤ most
      · exact .inr ⟨decide_eq_true h, decide_eq_false fun g => h0 ⟨h, g⟩⟩
      · exact .inl (decide_eq_false h)
    clear ho hr hm h0
    rcases hcond with g1 | ⟨g1, g2⟩
    all_goals
      go_enter Try.func12, Try.ntmps12
      go_wp2_with fail
      go_ret
      exact ⟨rfl, Below.refl _ _⟩

set_option maxRecDepth 100000 in
set_option maxHeartbeats 1600000 in
theorem wmade_any (I : WaveI At Vt) (A : Option Addr) (n c : Nat) (V : Nat → Int) (most : Int) (w : World) (hn : n ≤ 4194303) (hm : (Lit.int .i64 most).wf = true) (ho : ItsR w A n c V) :
    Calls Try.prog 11 #[.slice A n c, .int .i64 most] w fun e w' =>
      (RightW V n most → ∃ (B : Nat) (v : Value), e = .returned (.tuple #[v, .bool true]) ∧ At B w' v n V most.toNat) ∧ (¬ RightW V n most → e = .returned (.tuple #[.pointer none, .bool false])) ∧ Below w.heap.size w w' := by
  have HI := Lib.hid I
  have HO := Lib.hid ho
  have HVs := Lib.hid ho.2.2.2.small
  have HM := Lib.hid hm
  clear I ho hm
  go_enter Try.func11, Try.ntmps11
  go_wp2_with (at_builtin; refine step_append_list_far rfl (.tmp 10) (.tmp 11) rfl rfl rfl (by omega) HO.out.1 HO.out.2.2.2 ?_; intro g cg w1 hown1 hb1)
  obtain ⟨T, ct, eT, hit⟩ := ItsR.of_own hown1.out (fun j hj => HVs.out _ (by omega))
  cases eT
  have hrng : w.heap.size ≤ g ∧ (g : Nat) < w1.heap.size := by
    rcases Nat.eq_zero_or_pos n with h0 | h0
    · rcases hown1.out.2 with ⟨e, _⟩ | ⟨g', cap, cur, e, h1, h2, _⟩
      · cases e
      · cases e
        exact ⟨h1, (Array.getElem?_eq_some_iff.1 h2).1⟩
    · obtain ⟨g', c', e, h1, h2, _⟩ := owns_some hown1.out h0
      cases e
      exact ⟨h1, h2⟩
  have HNew := Lib.hid (HI.out.new _ n cg V most w1 hn HM.out hit)
  have HOwn := hown1
  clear hit hown1
  go_wp2_with fail
  refine HNew.out.mono ?_
  rintro e w2 ⟨h1, h2, hb2⟩
  have hB2 := hb1.trans (hb2.mono hb1.size)
  obtain ⟨v, k, rfl, hyes, hno⟩ : ∃ (v : Value) (k : Int), e = .returned (.tuple #[v, .int .i64 k]) ∧ (RightW V n most → k = 0 ∧ At w1.heap.size w2 v n V most.toNat) ∧ (¬ RightW V n most → k = 2 ∧ v = .pointer none) := by
    by_cases h : RightW V n most
    · obtain ⟨v, e1, e2⟩ := h1 h
      exact ⟨v, 0, e1, fun _ => ⟨rfl, e2⟩, fun g => absurd h g⟩
    · exact ⟨_, 2, h2 h, fun g => absurd g h, fun _ => ⟨rfl, rfl⟩⟩
  have HYes := Lib.hid fun h => (hyes h).2
  have HK := Lib.hid (And.intro (fun h => (hyes h).1) hno)
  have HR2 : Hid (∃ U, w2.ownsRow w.heap.size 3 1 (.slice (some ⟨g, 0, none⟩) n cg) n (icells U n)) := Lib.hid ⟨V, by
    have h := HOwn.out
    refine ⟨h.1, ?_⟩
    rcases h.2 with ⟨e, _⟩ | ⟨g', cap, cur, e, q1, q2, q3⟩
    · cases e
    · cases e
      exact .inr ⟨g, cg, cur, rfl, q1, by rw [hb2.block g hrng.2]; exact q2, q3⟩⟩
  obtain ⟨B, hBe⟩ : ∃ B, w1.heap.size = B := ⟨_, rfl⟩
  rw [hBe] at HYes hrng
  obtain ⟨hg1, hg2⟩ := hrng
  clear h1 h2 hyes hno hb2 HOwn hBe hb1 HNew
  go_wp2_with fail
  go_loopw [21] (fun s wr => ∃ i : Nat, i ≤ n ∧ s = .int .i64 (i : Int) ∧ Hid (∃ U, wr.ownsRow w.heap.size 3 1 (.slice (some ⟨g, 0, none⟩) n cg) n (icells U n)) ∧ Hid (RightW V n most → At B wr v n V most.toNat) ∧ Hid (Below w.heap.size w wr)) (fun s _ => n - (intOf s).toNat)
  case atStart => exact ⟨0, Nat.zero_le _, rfl, HR2, HYes, Lib.hid hB2⟩
  case round =>
    clear HR2 HYes hB2
    obtain ⟨i, hi, rfl, hU, hAt, hb⟩ := hrel
    by_cases hlt : i < n
    · have hlti : (i : Int) < (n : Int) := by omega
      obtain ⟨U, hR⟩ := hU.out
      have hc : wr.cell? ⟨g, i, none⟩ = some (.int .i64 (U i)) := by
        rw [hR.cellAt i (by omega)]
        exact icells_at _ _ _ hlt
      have hf := owns_free hR i
      have HN : Hid (∃ U', (wr.setCell ⟨g, i, none⟩ (.int .i64 0)).ownsRow w.heap.size 3 1 (.slice (some ⟨g, 0, none⟩) n cg) n (icells U' n)) := Lib.hid ⟨_, by
        have := owns_put hR i (.int .i64 0)
        rw [icells_put] at this
        exact this⟩
      have HA2 : Hid (RightW V n most → At B (wr.setCell ⟨g, i, none⟩ (.int .i64 0)) v n V most.toNat) := Lib.hid fun h => HI.out.keep_ (hAt.out h) (by simp [World.setCell]) (fun k hk _ => Below.heap_setCell wr ⟨g, i, none⟩ _ k (by show k ≠ g; omega))
      have HB2 : Hid (Below w.heap.size w (wr.setCell ⟨g, i, none⟩ (.int .i64 0))) := Lib.hid (hb.out.setCell (p := ⟨g, i, none⟩) hg1 _)
      generalize U i = u at hc
      clear hU hR hAt hb
      go_wp2_with fail
      go_roundw
      case rel => exact ⟨i + 1, by omega, by go_num, HN, HA2, HB2⟩
      case measure => simp [intOf]; omega
    · have hge : ¬ (i : Int) < (n : Int) := by omega
      by_cases hR : RightW V n most
      · obtain rfl := HK.out.1 hR
        have HRt := Lib.hid hR
        clear hR HK
        go_wp2_with fail
        go_ret2
        exact ⟨fun _ => ⟨B, v, rfl, hAt.out HRt.out⟩, fun h => absurd HRt.out h, hb.out⟩
      · obtain ⟨rfl, rfl⟩ := HK.out.2 hR
        have HRt := Lib.hid hR
        clear hR HK
        go_wp2_with fail
        go_ret2
        exact ⟨fun h => absurd h HRt.out, fun _ => rfl, hb.out⟩

/-- the chapter's example. -/
def wxV : Nat → Int := litI [2, 1, 2, 0]
theorem wxRight : RightW wxV 4 2 := ⟨by decide, by decide, by decide, fun i hi => by
  have h : i = 0 ∨ i = 1 ∨ i = 2 ∨ i = 3 := by omega
  rcases h with rfl | rfl | rfl | rfl <;> decide⟩
theorem wxWrong : ¬ RightW (litI [3]) 1 2 := fun h => by
  have := (h.2.2.2 0 (by decide)).2
  exact absurd this (by decide)
theorem wxRank : cntR wxV 2 0 3 4 = 2 := by decide
theorem wxSel : selW wxV 4 2 1 = 2 := by decide
theorem wxQuant : quantI wxV 4 0 4 1 = 1 := by decide
theorem wxLess : lessR wxV 0 4 2 4 = 2 := by decide
theorem wxAt : atI wxV 4 3 = 0 := by decide
theorem wxPart : partL wxV 0 3 4 = [2, 1, 2] := by decide
theorem wxPairs : PairsOf (partL wxV 0 3 4) [(1, 1), (2, 2)] := by
  rw [wxPart]
  refine ⟨by simp, fun d hd => ?_, fun x hx => ?_⟩
  · rcases List.mem_cons.1 hd with rfl | hd
    · decide
    · obtain rfl := List.mem_singleton.1 hd
      decide
  · rcases List.mem_cons.1 hx with rfl | hx
    · exact ⟨(2, 2), by simp, rfl⟩
    · rcases List.mem_cons.1 hx with rfl | hx
      · exact ⟨(1, 1), by simp, rfl⟩
      · obtain rfl := List.mem_singleton.1 hx
        exact ⟨(2, 2), by simp, rfl⟩
theorem wxWidth : widthN 2 = 2 := by
  rw [widthN_up (by decide), widthN_low (by decide)]
theorem prs_two (w : World) : PrsR (w.alloc (.cells #[.int .i64 1, .int .i64 1, .int .i64 2, .int .i64 2] 50)) (some ⟨w.heap.size, 0, none⟩) [(1, 1), (2, 2)] := by
  have hl := lies_new w 50 [.int .i64 1, .int .i64 1, .int .i64 2, .int .i64 2]
  refine ⟨by decide, fun i d hd => ?_⟩
  rcases i with _ | _ | i
  · have hd : some _ = some d := hd
    cases hd
    exact ⟨_, 0, rfl, by rw [size_alloc]; omega, hl.cell 0, hl.cell 1, by decide⟩
  · have hd : some _ = some d := hd
    cases hd
    exact ⟨_, 0, rfl, by rw [size_alloc]; omega, hl.cell 2, hl.cell 3, by decide⟩
  · simp at hd
theorem itsR_litW (w : World) (xs : List Int) (hm : xs.length ≤ maxLen) (hx : ∀ x ∈ xs, -9223372036854775808 ≤ x ∧ x ≤ 9223372036854775807) : ItsR (w.alloc (.cells (xs.map fun x => Value.int .i64 x).toArray 3)) (some ⟨w.heap.size, 0, none⟩) xs.length xs.length (litI xs) := ⟨fun e => (by cases e), Nat.le_refl _, hm, its_lit w xs hx⟩
set_option maxRecDepth 100000 in
set_option maxHeartbeats 3200000 in
theorem wfirst_any (I : WaveI At Vt) (w : World) : Calls Try.prog 10 #[] w fun e w' => e = .returned (.bool true) ∧ Below w.heap.size w w' := by
  have HI := Lib.hid I
  have i1 := itsR_litW w [2, 1, 2, 0] (by unfold maxLen; decide) (by decide)
  have hb1 : Below w.heap.size w (w.alloc (.cells #[.int .i64 2, .int .i64 1, .int .i64 2, .int .i64 0] 3)) := (Below.refl _ _).alloc (Nat.le_refl _) _
  have HN := Lib.hid (I.new _ 4 4 wxV 2 _ (by decide) (by decide) i1)
  clear I i1
  go_enter Try.func10, Try.ntmps10
  go_wp2_with fail
  refine HN.out.mono ?_
  rintro e w1 ⟨h1, _, hb2⟩
  obtain ⟨v, rfl, hAt⟩ := h1 wxRight
  obtain ⟨a, rfl⟩ := HI.out.ptr hAt
  have hB1 := hb1.trans (hb2.mono hb1.size)
  have i2 := itsR_litW w1 [3] (by unfold maxLen; decide) (by decide)
  have hb3 : Below w1.heap.size w1 (w1.alloc (.cells #[.int .i64 3] 3)) := (Below.refl _ _).alloc (Nat.le_refl _) _
  have HA2 := Lib.hid (HI.out.keep hAt hb3)
  have HW := Lib.hid (HI.out.new _ 1 1 (litI [3]) 2 _ (by decide) (by decide) i2)
  have hB2 := hB1.trans (hb3.mono hB1.size)
  clear h1 hAt hb1 hb2 hb3 i2 HN hB1
  go_wp2_with fail
  refine HW.out.mono ?_
  rintro e w2 ⟨_, h2, hb4⟩
  have he := h2 wxWrong
  subst he
  have hB3 := hB2.trans (hb4.mono hB2.size)
  have HA3 := Lib.hid (HI.out.keep HA2.out hb4)
  have H1 := Lib.hid (HI.out.rank_ _ _ _ _ _ 2 3 w2 (by decide) (by decide) HA3.out)
  rw [wxRank] at H1
  clear h2 hb4 HW HA2 hB2
  go_wp2_with fail
  refine H1.out.mono ?_
  rintro e w3 ⟨rfl, hb5⟩
  have hB4 := hB3.trans (hb5.mono hB3.size)
  have HA4 := Lib.hid (HI.out.keep HA3.out hb5)
  have H2 := Lib.hid (HI.out.select _ _ _ _ _ 2 1 w3 (by decide) (by decide) HA4.out)
  rw [wxSel] at H2
  clear hb5 H1 HA3 hB3
  go_wp2_with fail
  refine H2.out.mono ?_
  rintro e w4 ⟨rfl, hb6⟩
  have hB5 := hB4.trans (hb6.mono hB4.size)
  have HA5 := Lib.hid (HI.out.keep HA4.out hb6)
  have H3 := Lib.hid (HI.out.quantile _ _ _ _ _ 0 4 1 w4 (by decide) (by decide) (by decide) HA5.out)
  rw [wxQuant] at H3
  clear hb6 H2 HA4 hB4
  go_wp2_with fail
  refine H3.out.mono ?_
  rintro e w5 ⟨rfl, hb7⟩
  have hB6 := hB5.trans (hb7.mono hB5.size)
  have HA6 := Lib.hid (HI.out.keep HA5.out hb7)
  have H4 := Lib.hid (HI.out.below _ _ _ _ _ 0 4 2 w5 (by decide) (by decide) (by decide) HA6.out)
  rw [wxLess] at H4
  clear hb7 H3 HA5 hB5
  go_wp2_with fail
  refine H4.out.mono ?_
  rintro e w6 ⟨rfl, hb8⟩
  have hB7 := hB6.trans (hb8.mono hB6.size)
  have HA7 := Lib.hid (HI.out.keep HA6.out hb8)
  have H5 := Lib.hid (HI.out.distinct _ _ _ _ _ 0 3 w6 (by decide) (by decide) HA7.out)
  clear hb8 H4 HA6 hB6
  go_wp2_with fail
  refine H5.out.mono ?_
  rintro e w7 ⟨⟨AD, cD, D, rfl, hP, hPr⟩, hb9⟩
  obtain rfl := hP.one wxPairs
  have hB8 := hB7.trans (hb9.mono hB7.size)
  have hb10 : Below w7.heap.size w7 (w7.alloc (.cells #[.int .i64 1, .int .i64 1, .int .i64 2, .int .i64 2] 50)) := (Below.refl _ _).alloc (Nat.le_refl _) _
  have HA8 := Lib.hid (HI.out.keep (HI.out.keep HA7.out hb9) hb10)
  have hB9 := hB8.trans (hb10.mono hB8.size)
  have HSm := Lib.hid (refSameP_any AD (some ⟨w7.heap.size, 0, none⟩) cD 2 [(1, 1), (2, 2)] _ (hPr.below hb10) (prs_two w7))
  clear hb9 hb10 hP hPr H5 HA7 hB7 hB8
  go_wp2_with fail
  refine HSm.out.mono ?_
  rintro e w8 ⟨rfl, hb11⟩
  have hB10 := hB9.trans (hb11.mono hB9.size)
  have HA9 := Lib.hid (HI.out.keep HA8.out hb11)
  have H6 := Lib.hid (HI.out.at_ _ _ _ _ _ 3 w8 (by decide) HA9.out)
  rw [wxAt] at H6
  clear hb11 HSm HA8 hB9
  go_wp2_with fail
  refine H6.out.mono ?_
  rintro e w9 ⟨rfl, hb12⟩
  have hB11 := hB10.trans (hb12.mono hB10.size)
  have HA10 := Lib.hid (HI.out.keep HA9.out hb12)
  have H7 := Lib.hid (HI.out.levels _ _ _ _ _ w9 HA10.out)
  clear hb12 H6 HA9 hB10
  go_wp2_with fail
  refine H7.out.mono ?_
  rintro e w10 ⟨⟨AL, cL, rfl, _⟩, hb13⟩
  have hB12 := hB11.trans (hb13.mono hB11.size)
  have e2 : (2 : Int).toNat = 2 := rfl
  rw [e2, wxWidth]
  clear hb13 H7 HA10 hB11 e2
  go_wp2_with fail
  go_ret
  exact ⟨rfl, hB12⟩
end
end Go.Proofs.Ytfhflmojcfnhnaa
