/- For every input colophonlaw03.SparseFrom returns true, and its arguments read as they read. No condition. -/
import Derived.Test.YtmcoehimjfgakaaSpRows
namespace Go.Proofs.Ytmcoehimjfgakaa.sparseFrom
open Go.ChangeShapes Go.WideShapes Go.ChangeAt Go.RowKit

/-- two rows of words, as an array of slices by value. -/
def two (A1 : Option Addr) (n1 c1 : Nat) (A2 : Option Addr) (n2 c2 : Nat) : Value := .agg #[.slice A1 n1 c1, .slice A2 n2 c2]
/-- their box. -/
def Box (w : World) (b : Nat) (A1 : Option Addr) (n1 c1 : Nat) (A2 : Option Addr) (n2 c2 : Nat) : Prop := Lies w b 39 [.slice A1 n1 c1, .slice A2 n2 c2]

set_option maxRecDepth 100000 in
set_option maxHeartbeats 3200000 in
/-- too many words, or a bound too great. -/
theorem walk_far (n m : Int) (A1 : Option Addr) (n1 c1 : Nat) (A2 : Option Addr) (n2 c2 : Nat) (w : World) (h1 : n1 ≤ 9223372036854775807) (h2 : n2 ≤ 9223372036854775807) (h : 200 < n1 ∨ 200 < n2 ∨ (20000 < n ∧ n ≤ 4194304 ∧ m ≤ n)) :
    Calls Try.prog 4 #[.int .i64 n, .int .i64 m, two A1 n1 c1 A2 n2 c2] w fun e w' => e = .returned (.bool true) ∧ Below w.heap.size w w' := by
  have hbx := below_box w (.cells #[.slice A1 n1 c1, .slice A2 n2 c2] 39)
  have hlx := lies_new w 39 [.slice A1 n1 c1, .slice A2 n2 c2]
  have HF := Lib.hid (sfirst_any (w.alloc (.cells #[.slice A1 n1 c1, .slice A2 n2 c2] 39)))
  obtain ⟨M, hM⟩ : ∃ M, max n1 n2 = M := ⟨_, rfl⟩
  have eM : max (n1 : Int) (n2 : Int) = (M : Int) := by omega
  have HB := Lib.hid hbx
  unfold two
  by_cases hM2 : 200 < M
  · clear h hM hbx
    go_enter Try.func4, Try.ntmps4
    go_wp2_with fail
    with_reducible refine HF.out.mono ?_
    rintro e w1 ⟨rfl, hb1⟩
    have hl1 := hlx.below hb1 (by simp)
    have hd0 := hl1.cell 0
    have hd1 := hl1.cell 1
    go_wp2_with fail
    go_ret
    exact ⟨rfl, HB.out.trans (hb1.mono HB.out.size)⟩
  · obtain ⟨h3, h4, h5⟩ : 20000 < n ∧ n ≤ 4194304 ∧ m ≤ n := by omega
    clear h hM hbx
    go_enter Try.func4, Try.ntmps4
    go_wp2_with fail
    with_reducible refine HF.out.mono ?_
    rintro e w1 ⟨rfl, hb1⟩
    have hl1 := hlx.below hb1 (by simp)
    have hd0 := hl1.cell 0
    have hd1 := hl1.cell 1
    go_wp2_with fail
    go_ret
    exact ⟨rfl, HB.out.trans (hb1.mono HB.out.size)⟩

set_option maxRecDepth 100000 in
set_option maxHeartbeats 3200000 in
/-- a bound, or a number of places, that may not be. -/
theorem walk_bad (n m : Int) (A1 : Option Addr) (n1 c1 : Nat) (A2 : Option Addr) (n2 c2 : Nat) (w : World) (h1 : n1 ≤ 200) (h2 : n2 ≤ 200) (hf : ¬ (20000 < n ∧ n ≤ 4194304 ∧ m ≤ n)) (hb : ¬ (0 ≤ n ∧ n ≤ 4194304) ∨ m < 0 ∨ n < m) :
    Calls Try.prog 4 #[.int .i64 n, .int .i64 m, two A1 n1 c1 A2 n2 c2] w fun e w' => e = .returned (.bool true) ∧ Below w.heap.size w w' := by
  have hbx := below_box w (.cells #[.slice A1 n1 c1, .slice A2 n2 c2] 39)
  have hlx := lies_new w 39 [.slice A1 n1 c1, .slice A2 n2 c2]
  have HF := Lib.hid (sfirst_any (w.alloc (.cells #[.slice A1 n1 c1, .slice A2 n2 c2] 39)))
  obtain ⟨M, hM⟩ : ∃ M, max n1 n2 = M := ⟨_, rfl⟩
  have eM : max (n1 : Int) (n2 : Int) = (M : Int) := by omega
  have hM2 : M ≤ 200 := by omega
  have HB := Lib.hid hbx
  have HFr := fun W => Lib.hid (sfrom_bad n m (.slice A1 n1 c1) (.slice A2 n2 c2) W hb ⟨_, _, _, rfl⟩ ⟨_, _, _, rfl⟩)
  unfold two
  by_cases a1 : n < 0
  · clear hb hM hbx hf
    go_enter Try.func4, Try.ntmps4
    go_wp2_with fail
    with_reducible refine HF.out.mono ?_
    rintro e w1 ⟨rfl, hb1⟩
    have hl1 := hlx.below hb1 (by simp)
    have hd0 := hl1.cell 0
    have hd1 := hl1.cell 1
    have hB1 := HB.out.trans (hb1.mono HB.out.size)
    go_wp2_with fail
    with_reducible refine (HFr _).out.mono ?_
    rintro e w2 ⟨rfl, hb2⟩
    go_wp2_with fail
    go_ret
    exact ⟨rfl, hB1.trans (hb2.mono hB1.size)⟩
  · by_cases a2 : 4194304 < n
    · clear hb hM hbx hf
      go_enter Try.func4, Try.ntmps4
      go_wp2_with fail
      with_reducible refine HF.out.mono ?_
      rintro e w1 ⟨rfl, hb1⟩
      have hl1 := hlx.below hb1 (by simp)
      have hd0 := hl1.cell 0
      have hd1 := hl1.cell 1
      have hB1 := HB.out.trans (hb1.mono HB.out.size)
      go_wp2_with fail
      with_reducible refine (HFr _).out.mono ?_
      rintro e w2 ⟨rfl, hb2⟩
      go_wp2_with fail
      go_ret
      exact ⟨rfl, hB1.trans (hb2.mono hB1.size)⟩
    · by_cases a4 : m < 0
      · have a5 : n ≤ 20000 := by omega
        clear hb hM hbx hf
        go_enter Try.func4, Try.ntmps4
        go_wp2_with fail
        with_reducible refine HF.out.mono ?_
        rintro e w1 ⟨rfl, hb1⟩
        have hl1 := hlx.below hb1 (by simp)
        have hd0 := hl1.cell 0
        have hd1 := hl1.cell 1
        have hB1 := HB.out.trans (hb1.mono HB.out.size)
        go_wp2_with fail
        with_reducible refine (HFr _).out.mono ?_
        rintro e w2 ⟨rfl, hb2⟩
        go_wp2_with fail
        go_ret
        exact ⟨rfl, hB1.trans (hb2.mono hB1.size)⟩
      · have a6 : n < m := by omega
        by_cases a7 : 20000 < n
        all_goals
          clear hb hM hbx hf
          go_enter Try.func4, Try.ntmps4
          go_wp2_with fail
          with_reducible refine HF.out.mono ?_
          rintro e w1 ⟨rfl, hb1⟩
          have hl1 := hlx.below hb1 (by simp)
          have hd0 := hl1.cell 0
          have hd1 := hl1.cell 1
          have hB1 := HB.out.trans (hb1.mono HB.out.size)
          go_wp2_with fail
          with_reducible refine (HFr _).out.mono ?_
          rintro e w2 ⟨rfl, hb2⟩
          go_wp2_with fail
          go_ret
          exact ⟨rfl, hB1.trans (hb2.mono hB1.size)⟩

/-- what From leaves, with no places too: nothing and ErrForm, or a list with just these words. -/
def FromAll (w : World) (N m : Nat) (hs ls : List Nat) (e : Ending) (w' : World) : Prop :=
  NoSt 10 w e w' ∨ ∃ (l : Nat → Nat) (g : Nat), e = .returned (.tuple #[.pointer (some ⟨g, 0, none⟩), .int .i64 0]) ∧ Fits N m hs ls l ∧ Pl.Rise N m l ∧ St w' w.heap.size g N m hs ls l ∧ Below w.heap.size w w'
theorem from_all (N m : Nat) (A1 A2 : Option Addr) (c1 c2 : Nat) (hs ls : List Nat) (w : World) (hN : N ≤ 20000) (hmN : m ≤ N) (r1 : Rd w A1 hs) (r2 : Rd w A2 ls) (hA1 : A1 = none → hs.length = 0 ∧ c1 = 0)
    (hc1 : hs.length ≤ c1) (h200 : hs.length ≤ 200) (h2max : ls.length ≤ 200) (s1 : Pl.Small hs) (s2 : Pl.Small ls) :
    Calls Try.prog 20 #[.int .i64 (N : Int), .int .i64 (m : Int), .slice A1 hs.length c1, .slice A2 ls.length c2] w (FromAll w N m hs ls) := by
  by_cases hm0 : m = 0
  · subst hm0
    by_cases h0 : 0 < hs.length ∨ 0 < ls.length
    · exact (sfrom_zero_no N A1 A2 hs.length ls.length c1 c2 w (by omega) h0).mono fun _ _ h => .inl h
    · have e1 : hs = [] := List.length_eq_zero_iff.1 (by omega)
      have e2 : ls = [] := List.length_eq_zero_iff.1 (by omega)
      subst e1
      subst e2
      refine (sfrom_zero N A1 A2 c1 c2 (fun _ => 0) w (by omega)).mono ?_
      rintro e w' ⟨g, rfl, hst, hb⟩
      exact .inr ⟨fun _ => 0, g, rfl, .inl ⟨rfl, rfl, rfl⟩, ⟨fun i hi => absurd hi (Nat.not_lt_zero _), fun i hi => absurd hi (by omega)⟩, hst, hb⟩
  · refine (sfrom_walk N m A1 A2 c1 c2 hs ls w (by omega) (by omega) hmN (by omega) r1 r2 hA1 hc1 (by omega) (by omega) s1 s2).mono ?_
    rintro e w' (⟨_, h⟩ | ⟨l, hf, g, rfl, hst, hb⟩)
    · exact .inl h
    · exact .inr ⟨l, g, rfl, .inr ⟨by omega, hf⟩, hf.rise, hst, hb⟩
theorem fits_room {N m : Nat} {hs ls : List Nat} {l : Nat → Nat} (h : Fits N m hs ls l) (h2 : ls.length ≤ 200) : m * max 1 (Pl.lw N m) ≤ 200000 := by
  rcases h with ⟨rfl, _⟩ | ⟨_, h⟩
  · simp
  · have := h.low.len
    omega
theorem Wds.rd {w : World} {A : Option Addr} {ws : List Nat} (h : Wds w w.heap.size A ws.length (fun k => ws.getD k 0)) : Rd w A ws := fun k hk => by
  obtain ⟨ad, e, h1, h2, _⟩ := h k hk
  exact ⟨ad, e, h1, h2⟩

set_option maxRecDepth 100000 in
set_option maxHeartbeats 6400000 in
/-- a bound and a number of places that may be. -/
theorem walk_right (N m : Nat) (A1 : Option Addr) (c1 : Nat) (A2 : Option Addr) (c2 : Nat) (hs ls : List Nat) (w : World) (h1 : hs.length ≤ 200) (h2 : ls.length ≤ 200) (hN : N ≤ 20000) (hmN : m ≤ N) (s1 : Pl.Small hs) (s2 : Pl.Small ls)
    (hA1 : A1 = none → hs.length = 0 ∧ c1 = 0) (hc1 : hs.length ≤ c1) (o1 : Wds w w.heap.size A1 hs.length (fun k => hs.getD k 0)) (o2 : Wds w w.heap.size A2 ls.length (fun k => ls.getD k 0)) :
    Calls Try.prog 4 #[.int .i64 (N : Int), .int .i64 (m : Int), two A1 hs.length c1 A2 ls.length c2] w fun e w' => e = .returned (.bool true) ∧ Below w.heap.size w w' := by
  have hbx := below_box w (.cells #[.slice A1 hs.length c1, .slice A2 ls.length c2] 39)
  have hlx := lies_new w 39 [.slice A1 hs.length c1, .slice A2 ls.length c2]
  have HF := Lib.hid (sfirst_any (w.alloc (.cells #[.slice A1 hs.length c1, .slice A2 ls.length c2] 39)))
  have HW1 : Hid (∀ W, Below w.heap.size w W → Wds W W.heap.size A1 hs.length (fun k => hs.getD k 0)) := Lib.hid fun W h => (o1.below h).mono_ h.size
  have HW2 : Hid (∀ W, Below w.heap.size w W → Wds W W.heap.size A2 ls.length (fun k => ls.getD k 0)) := Lib.hid fun W h => (o2.below h).mono_ h.size
  have HFr : ∀ W, Below w.heap.size w W → Hid (Calls Try.prog 20 #[.int .i64 (N : Int), .int .i64 (m : Int), .slice A1 hs.length c1, .slice A2 ls.length c2] W (FromAll W N m hs ls)) := fun W h =>
    Lib.hid (from_all N m A1 A2 c1 c2 hs ls W hN hmN (Wds.rd (HW1.out W h)) (Wds.rd (HW2.out W h)) hA1 hc1 h1 h2 s1 s2)
  have HRd1 : ∀ W, Below w.heap.size w W → Hid (Rds W (.slice A1 hs.length c1) hs) := fun W h => Lib.hid ⟨A1, c1, rfl, HW1.out W h⟩
  have HRd2 : ∀ W, Below w.heap.size w W → Hid (Rds W (.slice A2 ls.length c2) ls) := fun W h => Lib.hid ⟨A2, c2, rfl, HW2.out W h⟩
  obtain ⟨L1, hL1⟩ : ∃ L1, hs.length = L1 := ⟨_, rfl⟩
  obtain ⟨L2, hL2⟩ : ∃ L2, ls.length = L2 := ⟨_, rfl⟩
  have h1' := Lib.hid h1
  have h2' := Lib.hid h2
  rw [hL1, hL2] at HFr HF hbx hlx ⊢
  rw [hL1] at HRd1 h1
  rw [hL2] at HRd2 h2
  obtain ⟨M, hM⟩ : ∃ M, max L1 L2 = M := ⟨_, rfl⟩
  have eM : max (L1 : Int) (L2 : Int) = (M : Int) := by omega
  have hM2 : M ≤ 200 := by omega
  have b1 : decide ((200 : Int) < (M : Int)) = false := by simp; omega
  have b2 : decide ((20000 : Int) < (N : Int)) = false := by simp; omega
  have b3 : decide ((N : Int) < 0) = false := by simp
  have b4 : decide ((4194304 : Int) < (N : Int)) = false := by simp; omega
  have b5 : decide ((m : Int) < 0) = false := by simp
  have b6 : decide (N < m) = false := by simp; omega
  have HB := Lib.hid hbx
  unfold two
  clear hM hbx o1 o2 hA1 hc1 hL1 hL2 s1 s2
  go_enter Try.func4, Try.ntmps4
  go_wp2_with fail
  with_reducible refine HF.out.mono ?_
  rintro e w1 ⟨rfl, hb1⟩
  have hl1 := hlx.below hb1 (by simp)
  have hd0 := hl1.cell 0
  have hd1 := hl1.cell 1
  have hB1 := HB.out.trans (hb1.mono HB.out.size)
  have HL1 := Lib.hid hl1
  have hw01 : w.heap.size < w1.heap.size := hl1.lt
  clear hlx hl1 hb1 HF
  go_wp2_with fail
  with_reducible refine (HFr _ hB1).out.mono ?_
  clear hd0 hd1
  rintro e w2 (⟨rfl, hb2⟩ | ⟨l, g, rfl, hfits, hrise, hst, hb2⟩)
  · have hB2 := hB1.trans (hb2.mono hB1.size)
    go_wp2_with fail
    go_ret
    exact ⟨rfl, hB2⟩
  · have hB2 := hB1.trans (hb2.mono hB1.size)
    have HL2 := Lib.hid (HL1.out.below hb2 HL1.out.lt)
    have HS2 := Lib.hid hst
    have HFi := Lib.hid hfits
    have HRi := Lib.hid hrise
    have hw12 := hb2.size
    clear hst hfits hrise hb2 HL1 hB1 HFr
    generalize w1.heap.size = B at HS2 hw01 hw12
    go_wp2_with fail
    go_loopw [9, 78] (fun u v wr => ∃ (i : Nat) (lv : Value), i ≤ m ∧ v = .int .i64 (i : Int) ∧ lv = u ∧ Hid (wr.ownsRow w2.heap.size 3 1 lv i (icells (fun t => ((l t : Nat) : Int)) i)) ∧ Below w2.heap.size w2 wr) (fun _ v _ => m - (intOf v).toNat)
    case atStart => exact ⟨0, _, Nat.zero_le _, rfl, rfl, Lib.hid (World.ownsRow_nil _ _ _ _), Below.refl _ _⟩
    case round =>
      obtain ⟨i, lv, hi, rfl, rfl, HOw, hBw⟩ := hrel
      by_cases hlt : i < m
      · have hbel := HRi.out.below i hlt
        have HA := Lib.hid (st_at (HS2.out.keep hBw) i hlt)
        have HSn := Lib.hid (icells_snoc (fun t => ((l t : Nat) : Int)) i)
        obtain ⟨z, hz⟩ : ∃ z, l i = z := ⟨_, rfl⟩
        rw [hz] at HA hbel
        have HZ := Lib.hid hz
        have hi4 : i ≤ 4194304 := by omega
        clear hz
        go_wp2_with (first
          | (go_at_call 16; (with_reducible refine HA.out.mono ?_); rintro e x1 ⟨rfl, hc1⟩; have HOw1 := Lib.hid (ownsRow_keep HOw.out hc1); have hBx := hBw.trans (hc1.mono hBw.size); have hBs := hBx.size)
          | (at_builtin; refine step_append_int rfl (.tmp 81) (.tmp 85) rfl rfl HOw1.out _ rfl hBs hi4 ?_; intro v' x2 HO2 hb3))
        go_roundw
        case rel =>
          refine ⟨i + 1, _, by omega, by go_num, rfl, Lib.hid ?_, hBx.trans hb3⟩
          rw [HSn.out, HZ.out]
          exact HO2.out
        case measure => simp [intOf]; omega
      · have him : i = m := by omega
        rw [him] at HOw
        clear him
        have hB3 := hB2.trans (hBw.mono hB2.size)
        have hS3 := HS2.out.keep hBw
        have HWs := Lib.hid (st_words hS3)
        have HBw := Lib.hid hBw
        have HB2' := Lib.hid hB2
        clear hBw hB2
        go_wp2_with fail
        with_reducible refine HWs.out.mono ?_
        rintro e y1 ⟨hs1, ls1, hf1, _, v1, v2, rfl, hr1, hr2, hc1⟩
        obtain ⟨eh, el⟩ := hf1.unique HFi.out
        rw [eh] at hr1
        rw [el] at hr2
        clear hf1 eh el
        have hB4 := hB3.trans (hc1.mono hB3.size)
        have HS4 := Lib.hid (hS3.keep hc1)
        have HD1 := Lib.hid (HBw.out.trans (hc1.mono HBw.out.size))
        obtain ⟨A3, c3, e3, hits⟩ := Its.of_own (ownsRow_keep HOw.out hc1) (fun t ht => by
          have := HRi.out.below t ht
          constructor <;> (show _ ≤ _; omega))
        subst e3
        have hnts : Nts y1 y1.heap.size A3 m l := hits.nts fun _ _ => rfl
        have HWd := Lib.hid (ref_words N m A3 c3 l y1.heap.size y1 (by omega) (by omega) (fits_room HFi.out h2'.out) (Nat.le_refl _) hnts HRi.out)
        have HRt : ∀ W, Below y1.heap.size y1 W → Hid (Calls Try.prog 10 #[.int .i64 (N : Int), .slice A3 m c3] W fun e w' => e = .returned (.bool true) ∧ W = w') := fun W h => by
          have e := sright_any (N : Int) A3 m c3 (fun t => ((l t : Nat) : Int)) y1.heap.size W (by omega) (hits.below h)
          rw [sright_yes (by omega) HRi.out fun _ _ => rfl] at e
          exact Lib.hid e
        have hq1 : ∀ W, Below y1.heap.size y1 W → Hid (Rds W v1 hs) := fun W h => Lib.hid (hr1.keep h)
        have hq2 : ∀ W, Below y1.heap.size y1 W → Hid (Rds W v2 ls) := fun W h => Lib.hid (hr2.keep h)
        obtain ⟨B1, d1, rfl, _⟩ := hr1
        obtain ⟨B2, d2, rfl, _⟩ := hr2
        clear hits hnts HOw hS3 HWs hB3
        have HC1 := Lib.hid hc1
        clear hc1
        go_wp2_with fail
        with_reducible refine HWd.out.mono ?_
        rintro e y2 ⟨hs2, ls2, hf2, v3, v4, rfl, hr3, hr4, hc2⟩
        obtain ⟨eh, el⟩ := hf2.unique HFi.out
        rw [eh] at hr3
        rw [el] at hr4
        clear hf2 eh el
        have hB5 := hB4.trans (hc2.mono hB4.size)
        have hS5 := HS4.out.keep hc2
        have HLn := Lib.hid (st_len hS5)
        have HBd := Lib.hid (st_bound hS5)
        have HRt2 := HRt y2 hc2
        have hsh1 : hs.length ≤ 8388608 := by have := h1'.out; omega
        have hsh2 : ls.length ≤ 8388608 := by have := h2'.out; omega
        have hD2 := HD1.out.trans (hc2.mono HD1.out.size)
        have HLx : Hid (∀ W, Below y2.heap.size y2 W → W.cell? ⟨w.heap.size, 0, none⟩ = some (.slice A1 L1 c1) ∧ W.cell? ⟨w.heap.size, 1, none⟩ = some (.slice A2 L2 c2)) := Lib.hid fun W h => by
          have hl := (HL2.out.below hD2 HL2.out.lt).below h (Nat.lt_of_lt_of_le HL2.out.lt hD2.size)
          exact ⟨hl.cell 0, hl.cell 1⟩
        have HSa : ∀ W, Below y2.heap.size y2 W → Hid (Calls Try.prog 19 #[.slice B1 hs.length d1, .slice A1 L1 c1] W fun e w' => e = .returned (.bool true) ∧ Below W.heap.size W w') := fun W h =>
          Lib.hid (same_rds hsh1 (hq1 W (hc2.trans (h.mono hc2.size))).out (HRd1 W (hB5.trans (h.mono hB5.size))).out)
        have HSb : ∀ W, Below y2.heap.size y2 W → Hid (Calls Try.prog 19 #[.slice B2 ls.length d2, .slice A2 L2 c2] W fun e w' => e = .returned (.bool true) ∧ Below W.heap.size W w') := fun W h =>
          Lib.hid (same_rds hsh2 (hq2 W (hc2.trans (h.mono hc2.size))).out (HRd2 W (hB5.trans (h.mono hB5.size))).out)
        have HSc : ∀ W, Below y2.heap.size y2 W → Hid (Calls Try.prog 19 #[.slice B1 hs.length d1, v3] W fun e w' => e = .returned (.bool true) ∧ Below W.heap.size W w') := fun W h =>
          Lib.hid (same_rds hsh1 (hq1 W (hc2.trans (h.mono hc2.size))).out (hr3.keep h))
        have HSd : ∀ W, Below y2.heap.size y2 W → Hid (Calls Try.prog 19 #[.slice B2 ls.length d2, v4] W fun e w' => e = .returned (.bool true) ∧ Below W.heap.size W w') := fun W h =>
          Lib.hid (same_rds hsh2 (hq2 W (hc2.trans (h.mono hc2.size))).out (hr4.keep h))
        obtain ⟨B3, d3, rfl, _⟩ := hr3
        obtain ⟨B4, d4, rfl, _⟩ := hr4
        obtain ⟨hd0, _⟩ := HLx.out y2 (Below.refl _ _)
        clear hB4 HRt hq1 hq2 hS5 HRd1 HRd2 hD2
        have HC2 := Lib.hid hc2
        clear hc2
        go_wp2_with fail
        with_reducible refine HLn.out.mono ?_
        rintro e w' ⟨rfl, rfl⟩
        go_wp2_with fail
        with_reducible refine HBd.out.mono ?_
        rintro e w' ⟨rfl, rfl⟩
        go_wp2_with fail
        with_reducible refine HRt2.out.mono ?_
        rintro e w' ⟨rfl, rfl⟩
        go_wp2_with fail
        with_reducible refine (HSa _ (Below.refl _ _)).out.mono ?_
        rintro e y3 ⟨rfl, hc3⟩
        obtain ⟨_, hd1⟩ := HLx.out y3 hc3
        go_wp2_with fail
        with_reducible refine (HSb _ hc3).out.mono ?_
        rintro e y4 ⟨rfl, hc4⟩
        have hE4 := hc3.trans (hc4.mono hc3.size)
        go_wp2_with fail
        with_reducible refine (HSc _ hE4).out.mono ?_
        rintro e y5 ⟨rfl, hc5⟩
        have hE5 := hE4.trans (hc5.mono hE4.size)
        go_wp2_with fail
        with_reducible refine (HSd _ hE5).out.mono ?_
        rintro e y6 ⟨rfl, hc6⟩
        have hE6 := hE5.trans (hc6.mono hE5.size)
        go_wp2_with fail
        go_ret
        exact ⟨rfl, hB5.trans (hE6.mono hB5.size)⟩

theorem list2 {α : Type} (l : List α) (h : (⟨l⟩ : Array α).size = 2) : ∃ a b, l = [a, b] := by
  match l, h with
  | [a, b], _ => exact ⟨a, b, rfl⟩
theorem cells_two : Try.prog.cellsOf 39 = 2 := by kernel_rfl
theorem cells_row : Try.prog.cellsOf 33 = 1 := by kernel_rfl

section
variable {H : Type} {enc : TypeId × Value → H}
/-- a slice of words that lies as a cell, opened. -/
theorem open_cell {W : World} {fuel : Nat} {v : Value} {x : DataW H × List MemPlace} (hf : DataW.trod enc Try.prog W 0 (fun _ => true) true fuel 33 [v] = some x) :
    ∃ (A : Option Addr) (n c : Nat) (V : Nat → Nat), v = .slice A n c ∧ n ≤ maxLen ∧ n ≤ c ∧ (A = none → n = 0 ∧ c = 0) ∧ Wds W W.heap.size A n V := by
  rcases open_ints Try.underlying33 Try.underlying43 cells_u64 hf with ⟨hcs, _⟩ | ⟨a, n, c, zs, hcs, _, hl, hm, hz, _, hcell, hwz⟩
  · simp at hcs
    subst hcs
    exact ⟨none, 0, 0, fun _ => 0, rfl, Nat.zero_le _, Nat.le_refl _, fun _ => ⟨rfl, rfl⟩, fun k hk => absurd hk (by omega)⟩
  · simp at hcs
    subst hcs
    have hnm : n ≤ zs.length := by rw [hz]; split <;> omega
    refine ⟨some a, n, c, fun k => (zs.getD k 0).toNat, rfl, Nat.le_trans hl hm, hl, fun e => (by cases e), fun k hk => ?_⟩
    have e0 := hcell k (by omega)
    have hlt := cell_in e0
    rw [add_block] at hlt
    have hmem : zs.getD k 0 ∈ zs := by
      rw [List.getD_eq_getElem?_getD, List.getElem?_eq_getElem (by omega)]
      exact List.getElem_mem _
    obtain ⟨x, hx, hxz⟩ := u64_nat (hwz _ hmem)
    refine ⟨a, rfl, hlt, ?_, ?_⟩
    · show W.cell? (a.add k) = some (.int .u64 (((zs.getD k 0).toNat : Nat) : Int))
      rw [e0, hxz, Int.toNat_natCast]
    · show (zs.getD k 0).toNat < 2 ^ 64
      rw [hxz]
      exact hx
/-- an array of two slices of words, opened. -/
theorem open_two {W : World} {v : Value} {d : DataW H} {p : List MemPlace} {b : Nat} {r : Reach} (hv : Value.okWide Try.prog W r b 39 v) (h : DataW.Trod enc Try.prog W 0 (fun _ => true) true 39 v d p) :
    ∃ (A1 : Option Addr) (n1 c1 : Nat) (V1 : Nat → Nat) (A2 : Option Addr) (n2 c2 : Nat) (V2 : Nat → Nat), v = two A1 n1 c1 A2 n2 c2 ∧ (n1 ≤ maxLen ∧ n1 ≤ c1 ∧ (A1 = none → n1 = 0 ∧ c1 = 0) ∧ Wds W W.heap.size A1 n1 V1) ∧ (n2 ≤ maxLen ∧ n2 ≤ c2 ∧ (A2 = none → n2 = 0 ∧ c2 = 0) ∧ Wds W W.heap.size A2 n2 V2) := by
  obtain ⟨cs, rfl, hsz, _⟩ : ∃ cs, v = .agg cs ∧ cs.size = Try.prog.cellsOf 39 ∧ Row.okWide Try.prog W r b 39 cs := by
    simpa [Value.okWide, Try.underlying39] using hv
  rw [cells_two] at hsz
  obtain ⟨l⟩ := cs
  obtain ⟨a, b', rfl⟩ := list2 l hsz
  obtain ⟨fuel, hf⟩ := h
  obtain ⟨xs, mm, _, _, _, hlen, hel⟩ := DataW.trod_array Try.underlying39 hf
  match xs, hlen with
  | [y0, y1], _ =>
    have e0 := hel 0 (by decide)
    have e1 := hel 1 (by decide)
    rw [cells_row] at e0 e1
    obtain ⟨A1, n1, c1, V1, rfl, h1⟩ := open_cell (x := y0) (by simpa [Value.cells] using e0)
    obtain ⟨A2, n2, c2, V2, rfl, h2⟩ := open_cell (x := y1) (by simpa [Value.cells] using e1)
    exact ⟨A1, n1, c1, V1, A2, n2, c2, V2, rfl, h1, h2⟩
end

theorem walk (n m : Int) (A1 : Option Addr) (n1 c1 : Nat) (V1 : Nat → Nat) (A2 : Option Addr) (n2 c2 : Nat) (V2 : Nat → Nat) (w : World) (_wa0 : (Lit.int .i64 n).wf = true) (_wa1 : (Lit.int .i64 m).wf = true) (h1 : n1 ≤ maxLen ∧ n1 ≤ c1 ∧ (A1 = none → n1 = 0 ∧ c1 = 0) ∧ Wds w w.heap.size A1 n1 V1) (h2 : n2 ≤ maxLen ∧ n2 ≤ c2 ∧ (A2 = none → n2 = 0 ∧ c2 = 0) ∧ Wds w w.heap.size A2 n2 V2) :
    Calls Try.prog 4 #[.int .i64 n, .int .i64 m, two A1 n1 c1 A2 n2 c2] w fun e w' => e = .returned (.bool true) ∧ Below w.heap.size w w' := by
  obtain ⟨h1m, h1c, h1a, o1⟩ := h1
  obtain ⟨h2m, h2c, h2a, o2⟩ := h2
  unfold maxLen at h1m h2m
  by_cases hfar : 200 < n1 ∨ 200 < n2 ∨ (20000 < n ∧ n ≤ 4194304 ∧ m ≤ n)
  · exact walk_far n m A1 n1 c1 A2 n2 c2 w (by omega) (by omega) hfar
  · by_cases hb : ¬ (0 ≤ n ∧ n ≤ 4194304) ∨ m < 0 ∨ n < m
    · exact walk_bad n m A1 n1 c1 A2 n2 c2 w (by omega) (by omega) (by omega) hb
    · obtain ⟨N, rfl⟩ : ∃ N : Nat, n = N := ⟨n.toNat, by omega⟩
      obtain ⟨M, rfl⟩ : ∃ M : Nat, m = M := ⟨m.toNat, by omega⟩
      have e1 := wsOf_length V1 n1
      have e2 := wsOf_length V2 n2
      have hw := walk_right N M A1 c1 A2 c2 (wsOf V1 n1) (wsOf V2 n2) w (by omega) (by omega) (by omega) (by omega) o1.small o2.small (by rw [e1]; exact h1a) (by omega) (by rw [e1]; exact o1.named) (by rw [e2]; exact o2.named)
      rw [e1, e2] at hw
      exact hw

theorem own : ownKnob Try.prog.godebug = none := by kernel_rfl
theorem laidOut : laidOutB Try.prog = true := by kernel_rfl

set_option maxRecDepth 100000 in
theorem lifted (os : Os) (started : os.Started) (H : Type) (enc : TypeId × Value → H) :
    ReturnsInHanded {} Try.checked os 4 .any (Rows.sparseFromSpec.pre6 enc Try.prog Try.f4 Rows.sparseFromRow.domain false) (Rows.sparseFromSpec.post enc Try.prog Try.f4 false true false false) := by
  refine returnsInHanded_of_change (C := Try.checked) own started (by kernel_rfl) Try.func4
    (ChangeSpec.witness6 (enc := enc) (C := Try.checked) false ⟨#[], #[.int .i64 0, .int .i64 0, .agg #[.slice none 0 0, .slice none 0 0]], []⟩ 8 (by kernel_rfl) (by kernel_rfl) (by kernel_rfl) (by kernel_rfl)) ?_
  intro W base args ds gs before hval0 hW hcnd _
  have hval : ∀ (j : Nat) t v, Try.f4.params[j]? = some t → args[j]? = some v → Value.okWide Try.prog W .any base t v := hval0
  have hW' := hW
  obtain ⟨p, q, hA0, hV, rfl, hfz, hnd⟩ := hW
  have hA : DataW.TrodAll enc Try.prog W 0 (fun _ => true) true Try.f4.params.toList args.toList ds p := hA0
  rw [Try.params4] at hA hval
  obtain ⟨v0, v1, v2, d0, d1, d2, p0, p1, p2, rfl, rfl, rfl, h0, h1, h2⟩ := trodAll_three hA
  obtain ⟨rfl, rfl⟩ := trodVars_none hV
  obtain ⟨a0, rfl, rfl, rfl, wa0⟩ := open_int Try.underlying3 (hval 0 3 v0 rfl rfl) h0
  obtain ⟨a1, rfl, rfl, rfl, wa1⟩ := open_int Try.underlying3 (hval 1 3 v1 rfl rfl) h1
  obtain ⟨A2, n2, c2, V2, B2, m2, k2, U2, rfl, hh2, kk2⟩ := open_two (hval 2 39 v2 rfl rfl) h2
  clear hA0 hval0
  refine (walk a0 a1 A2 n2 c2 V2 B2 m2 k2 U2 W wa0 wa1 hh2 kk2).mono fun e W' ⟨he, hg⟩ => ?_
  subst he
  exact ⟨_, rfl, law_post laidOut rfl rfl rfl (by rw [Try.params4]; decide +kernel) hW' hg⟩

/-- The statement. -/
theorem proved : Rows.SparseFromSaid :=
  OpenClaim.holds_of_wide 4 Try.f4 rfl rfl rfl rfl rfl rfl rfl ⟨rfl, rfl, rfl, rfl, rfl⟩ rfl rfl rfl rfl rfl (by kernel_rfl) Try.func4 (by kernel_rfl)
    (of_decide_eq_true (by kernel_rfl)) (by unfold Func.isWrapper; first | (rw [if_pos (by decide +kernel)]; kernel_rfl) | (rw [if_neg (by decide +kernel)]; exact ⟨rfl, rfl⟩))
    (fun os started H enc _ => lifted os started H enc)
#print axioms proved
end Go.Proofs.Ytmcoehimjfgakaa.sparseFrom
