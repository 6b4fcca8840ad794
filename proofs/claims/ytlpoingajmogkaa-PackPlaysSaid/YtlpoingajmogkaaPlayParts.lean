/- Parts of the proof for colophonlaw01.PackPlays: what trying to set does; arguments that may not be; great lists. -/
import Derived.Test.YtlpoingajmogkaaRefWords
namespace Go.Proofs.Ytlpoingajmogkaa.packPlays
open Go.ChangeShapes Go.WideShapes Go.ChangeAt Go.RowKit

/-- may v be laid at place i? -/
def okB (width n : Nat) (i : Int) (v : Nat) : Bool := decide (0 ≤ i ∧ i < (n : Int) ∧ v < 2 ^ width)
/-- the numbers, when it has been tried. -/
def putX (width n : Nat) (i : Int) (v : Nat) (xs : List Nat) : List Nat := if okB width n i v then xs.set i.toNat v else xs

theorem Full.congr {w : World} {g gs width n : Nat} {ws : List Nat} {x y : Nat → Nat} (h : Full w g gs width n ws x) (e : ∀ i, i < n → x i = y i) : Full w g gs width n ws y :=
  ⟨h.pk, ⟨h.holds.w1, h.holds.w64, h.holds.len, h.holds.small, fun i hi => by rw [← e i hi]; exact h.holds.fits i hi, fun i j hi hj => by rw [← e i hi]; exact h.holds.bits i j hi hj, h.holds.behind⟩, h.few⟩

/-- what Set leaves, whatever the place and the number. -/
def SetGen (w : World) (g gs width n : Nat) (xs : List Nat) (i : Int) (v : Nat) (e : Ending) (w' : World) : Prop :=
  e = .returned (.bool (okB width n i v)) ∧ ∃ ws, Full w' g gs width n ws (fun k => (putX width n i v xs).getD k 0) ∧ w.grownBy w' (some gs)
theorem set_gen {w : World} {g gs width n : Nat} {ws xs : List Nat} (h : Full w g gs width n ws (fun k => xs.getD k 0)) (hl : xs.length = n) (i : Int) (v : Nat) :
    Calls Try.prog 16 #[.pointer (some ⟨g, 0, none⟩), .int .i64 i, .int .u64 v] w (SetGen w g gs width n xs i v) := by
  by_cases hin : 0 ≤ i ∧ i < (n : Int)
  · obtain ⟨j, rfl⟩ : ∃ j : Nat, i = (j : Int) := ⟨i.toNat, by omega⟩
    have hj : j < n := by omega
    by_cases hv : v < 2 ^ width
    · have hok : okB width n (j : Int) v = true := by unfold okB; simp [hj, hv]
      refine (h.set_ j v hj hv).mono fun e w' ⟨he, ws', hf, hg⟩ => ⟨by rw [hok]; exact he, ws', Full.congr hf (fun k hk => ?_), hg⟩
      unfold putX
      rw [hok, if_pos rfl, Int.toNat_natCast]
      simp only [List.getD_eq_getElem?_getD, List.getElem?_set]
      by_cases e : k = j
      · subst e
        simp [hl, hk]
      · simp [e, Ne.symm e]
    · have hok : okB width n (j : Int) v = false := by unfold okB; simp [hv]
      refine (set_wide h.pk h.holds.w64 j v hj (by omega)).mono fun e w' ⟨he, hw⟩ => ?_
      subst hw
      refine ⟨by rw [hok]; exact he, ws, ?_, grownBy_of_below (Below.refl _ _) _⟩
      unfold putX
      rw [hok]
      exact h
  · have hok : okB width n i v = false := by unfold okB; simp; omega
    refine (set_out h.pk i v (by omega)).mono fun e w' ⟨he, hw⟩ => ?_
    subst hw
    refine ⟨by rw [hok]; exact he, ws, ?_, grownBy_of_below (Below.refl _ _) _⟩
    unfold putX
    rw [hok]
    exact h

theorem putX_len {width n : Nat} {i : Int} {v : Nat} {xs : List Nat} (h : xs.length = n) : (putX width n i v xs).length = n := by
  unfold putX
  split <;> simp [h]
theorem putX_small {width n : Nat} {i : Int} {v : Nat} {xs : List Nat} (h : Pl.Small xs) (hv : v < 2 ^ 64) : Pl.Small (putX width n i v xs) := by
  unfold putX
  split
  · exact h.set_ _ hv
  · exact h

theorem lies_wds {w : World} {g n : Nat} {xs : List Nat} (h : Lies w g 30 (wcells xs)) (hl : xs.length = n) (hs : Pl.Small xs) : Wds w w.heap.size (some ⟨g, 0, none⟩) n (fun k => xs.getD k 0) := fun k hk => by
  refine ⟨⟨g, 0, none⟩, rfl, h.lt, ?_, hs.at_ k⟩
  have e : (⟨g, 0, none⟩ : Addr).add k = ⟨g, k, none⟩ := by unfold Addr.add; split <;> simp_all
  rw [e, h.cell k]
  exact wcells_at _ k (by omega)
theorem own_wds {w : World} {B n : Nat} {v : Value} {ws : List Nat} (h : w.ownsRow B 30 1 v n (wcells ws)) (hs : Pl.Small ws) : ∃ A c, v = .slice A n c ∧ Wds w w.heap.size A n (fun k => ws.getD k 0) := by
  have hl := own_len h
  rcases Nat.eq_zero_or_pos n with h0 | h0
  · subst h0
    rcases h.2 with ⟨rfl, _⟩ | ⟨g, cap, cur, rfl, _⟩
    · exact ⟨none, 0, rfl, fun k hk => absurd hk (by omega)⟩
    · exact ⟨_, cap, rfl, fun k hk => absurd hk (by omega)⟩
  · obtain ⟨g, c, rfl, hr⟩ := own_form h h0
    refine ⟨_, c, rfl, fun k hk => ⟨⟨g, 0, none⟩, rfl, hr.lt.2, ?_, hs.at_ k⟩⟩
    have e : (⟨g, 0, none⟩ : Addr).add k = ⟨g, k, none⟩ := by unfold Addr.add; split <;> simp_all
    rw [e]
    exact hr.at_ hl.symm k hk

set_option maxHeartbeats 800000 in
theorem walk_bad (a b : Int) (A : Option Addr) (L c : Nat) (w : World) (hb : rightB a b = false) :
    Calls Try.prog 3 #[.int .i64 a, .int .i64 b, .slice A L c] w fun e w' => e = .returned (.bool true) ∧ Below w.heap.size w w' := by
  have HF := Lib.hid (first_any w)
  have HB := Lib.hid hb
  clear hb
  go_enter Try.func3, Try.ntmps3
  go_wp2_with fail
  refine HF.out.mono ?_
  rintro e w1 ⟨rfl, hb1⟩
  go_wp2_with fail
  refine (new_bad a b HB.out w1).mono ?_
  rintro e w' ⟨rfl, rfl⟩
  go_wp2_with fail
  refine (right_any a b _).mono ?_
  rintro e w' ⟨rfl, rfl⟩
  rw [HB.out]
  go_wp2_with fail
  go_ret
  exact ⟨rfl, hb1⟩

set_option maxHeartbeats 800000 in
theorem walk_many (k n : Nat) (A : Option Addr) (L c : Nat) (w : World) (hk1 : 1 ≤ k) (hk : k ≤ 64) (hn : 500 < n) (hn2 : n ≤ 4194304) :
    Calls Try.prog 3 #[.int .i64 (k : Int), .int .i64 (n : Int), .slice A L c] w fun e w' => e = .returned (.bool true) ∧ Below w.heap.size w w' := by
  have HF := Lib.hid (first_any w)
  have HB := Lib.hid (show rightB (k : Int) (n : Int) = true by unfold rightB; simp; omega)
  go_enter Try.func3, Try.ntmps3
  go_wp2_with fail
  refine HF.out.mono ?_
  rintro e w1 ⟨rfl, hb1⟩
  go_wp2_with fail
  refine (new_full k n hk1 hk hn2 w1).mono ?_
  rintro e w2 ⟨g, gs, rfl, hg, hgs, hb2, ws, hp⟩
  have hbB := hb1.trans (hb2.mono hb1.size)
  have HL := Lib.hid (len_any hp.pk)
  have HWd := Lib.hid (width_any hp.pk)
  have e1 : (n : Int) - 1 = ((n - 1 : Nat) : Int) := by omega
  have HG := Lib.hid (show Calls Try.prog 14 #[.pointer (some ⟨g, 0, none⟩), .int .i64 ((n : Int) - 1)] w2 fun e w' => e = .returned (.int .u64 0) ∧ w2 = w' by rw [e1]; exact hp.get (n - 1) (by omega))
  have HG2 := Lib.hid (hp.getOut (n : Int) (by omega))
  clear hb1 hb2 hp e1
  go_wp2_with fail
  refine (right_any (k : Int) (n : Int) _).mono ?_
  rintro e w' ⟨rfl, rfl⟩
  rw [HB.out]
  go_wp2_with fail
  refine HL.out.mono ?_
  rintro e w' ⟨rfl, rfl⟩
  go_wp2_with fail
  refine HWd.out.mono ?_
  rintro e w' ⟨rfl, rfl⟩
  go_wp2_with fail
  refine HG.out.mono ?_
  rintro e w' ⟨rfl, rfl⟩
  go_wp2_with fail
  refine HG2.out.mono ?_
  rintro e w' ⟨rfl, rfl⟩
  go_wp2_with fail
  go_ret
  exact ⟨rfl, hbB⟩

end Go.Proofs.Ytlpoingajmogkaa.packPlays
