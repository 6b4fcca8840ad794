/- The walk of colophonlaw17.ListDocs, over what package list answers (LstI). -/
import Derived.Test.YtddfaidfnmpnlaaListI
import Derived.Test.YtddfaidfnmpnlaaIntPut
import Derived.Test.YtddfaidfnmpnlaaListR
namespace Go.Proofs.Ytddfaidfnmpnlaa
open Go.RowKit
section
variable {At : Nat → World → Value → Nat → (Nat → Int) → Prop}

set_option maxRecDepth 100000 in
set_option maxHeartbeats 1600000 in
theorem lsDocs_walk (I : LstI At) (A : Option Addr) (n c : Nat) (V : Nat → Int) (x0 x1 : Int) (w : World) (h0 : (Lit.int .i64 x0).wf = true) (h1 : (Lit.int .i64 x1).wf = true) (ho : ItsR w A n c V) :
    Calls Try.prog 3 #[.slice A n c, .int .i64 x0, .int .i64 x1] w fun e w' => e = .returned (.bool true) ∧ Below w.heap.size w w' := by
  have HI := Lib.hid I
  have HO := Lib.hid ho
  have HF := Lib.hid (lfirst17_any I w)
  have HW := Lib.hid (And.intro h0 h1)
  have HVs := Lib.hid ho.2.2.2.small
  have hnm : n ≤ maxLen := by have := ho.2.1; have := ho.2.2.1; omega
  have hnl : n ≤ 9223372036854775807 := by unfold maxLen at hnm; omega
  clear I ho h0 h1
  by_cases hbig : 800 < n
  · have hdd : decide ((800 : Int) < (n : Int)) = true := decide_eq_true (by omega)
    go_enter Try.func3, Try.ntmps3
    go_wp2_with fail
    refine HF.out.mono ?_
    rintro e w0 ⟨rfl, hb0⟩
    go_wp2_with fail
    go_ret
    exact ⟨rfl, hb0⟩
  · have hdd : decide ((800 : Int) < (n : Int)) = false := decide_eq_false (by omega)
    have hn : n ≤ 800 := by omega
    go_enter Try.func3, Try.ntmps3
    go_wp2_with fail
    refine HF.out.mono ?_
    rintro e w0 ⟨rfl, hb0⟩
    have HO0 := Lib.hid (HO.out.below hb0)
    have HB0 := Lib.hid hb0
    clear hb0 HF HO
    go_wp2_with (at_builtin; refine step_append_list_far rfl (.tmp 16) (.tmp 17) rfl rfl rfl (by omega) HO0.out.1 HO0.out.2.2.2 ?_; intro g cg w1 hown1 hb1)
    obtain ⟨T, ct, eT, hit⟩ := ItsR.of_own hown1.out (fun j hj => HVs.out _ (by omega))
    cases eT
    have hrng : w0.heap.size ≤ g ∧ (g : Nat) < w1.heap.size := by
      rcases Nat.eq_zero_or_pos n with h0 | h0
      · rcases hown1.out.2 with ⟨e, _⟩ | ⟨g', cap, cur, e, h1, h2, _⟩
        · cases e
        · cases e
          exact ⟨h1, (Array.getElem?_eq_some_iff.1 h2).1⟩
      · obtain ⟨g', c', e, h1, h2, _⟩ := owns_some hown1.out h0
        cases e
        exact ⟨h1, h2⟩
    have HNew := Lib.hid (HI.out.new _ n cg V w1 (by omega) hit)
    have HK1 := Lib.hid hb1
    have HOwn := hown1
    have hw0 := HB0.out.size
    clear hit hown1 hb1
    go_wp2_with fail
    refine HNew.out.mono ?_
    rintro e w2 ⟨⟨v, rfl, hAt⟩, hb2⟩
    obtain ⟨pa, rfl⟩ := HI.out.ptr hAt
    have HK2 := Lib.hid (HK1.out.trans (hb2.mono HK1.out.size))
    have HA2 : Hid (At w1.heap.size w2 (.pointer (some pa)) n V) := Lib.hid hAt
    have HR2 : Hid (∃ U, w2.ownsRow w0.heap.size 3 1 (.slice (some ⟨g, 0, none⟩) n cg) n (icells U n)) := Lib.hid ⟨V, by
      have h := HOwn.out
      refine ⟨h.1, ?_⟩
      rcases h.2 with ⟨e, _⟩ | ⟨g', cap, cur, e, q1, q2, q3⟩
      · cases e
      · cases e
        exact .inr ⟨g, cg, cur, rfl, q1, by rw [hb2.block g hrng.2]; exact q2, q3⟩⟩
    obtain ⟨B, hBe⟩ : ∃ B, w1.heap.size = B := ⟨_, rfl⟩
    rw [hBe] at HA2 hrng
    obtain ⟨hg1, hg2⟩ := hrng
    clear hAt hb2 HOwn hBe HK1 HNew
    go_wp2_with fail
    go_loopw [26] (fun s wr => ∃ i : Nat, i ≤ n ∧ s = .int .i64 (i : Int) ∧ Hid (∃ U, wr.ownsRow w0.heap.size 3 1 (.slice (some ⟨g, 0, none⟩) n cg) n (icells U n)) ∧ Hid (At B wr (.pointer (some pa)) n V) ∧ Hid (Below w0.heap.size w0 wr)) (fun s _ => n - (intOf s).toNat)
    case atStart => exact ⟨0, Nat.zero_le _, rfl, HR2, HA2, HK2⟩
    case round =>
      clear HR2 HA2 HK2
      obtain ⟨i, hi, rfl, hU, hA, hb⟩ := hrel
      by_cases hlt : i < n
      · have hlti : (i : Int) < (n : Int) := by omega
        obtain ⟨U, hR⟩ := hU.out
        have hc : wr.cell? ⟨g, i, none⟩ = some (.int .i64 (U i)) := by
          rw [hR.cellAt i (by omega)]
          exact icells_at _ _ _ hlt
        have hf := owns_free hR i
        obtain ⟨u, hu⟩ : ∃ u, U i = u := ⟨_, rfl⟩
        rw [hu] at hc
        clear hu
        have HN : Hid (∃ U', (wr.setCell ⟨g, i, none⟩ (.int .i64 (bits .xor .i64 u 3))).ownsRow w0.heap.size 3 1 (.slice (some ⟨g, 0, none⟩) n cg) n (icells U' n)) := Lib.hid ⟨_, by
          have := owns_put hR i (.int .i64 (bits .xor .i64 u 3))
          rw [icells_put] at this
          exact this⟩
        have HA2 : Hid (At B (wr.setCell ⟨g, i, none⟩ (.int .i64 (bits .xor .i64 u 3))) (.pointer (some pa)) n V) := Lib.hid (HI.out.keep_ hA.out (by simp [World.setCell]) (fun k hk _ => Below.heap_setCell wr ⟨g, i, none⟩ _ k (by show k ≠ g; omega)))
        have HB2 : Hid (Below w0.heap.size w0 (wr.setCell ⟨g, i, none⟩ (.int .i64 (bits .xor .i64 u 3)))) := Lib.hid (hb.out.setCell (p := ⟨g, i, none⟩) hg1 _)
        clear hU hR hA hb
        go_wp2_with fail
        go_roundw
        case rel => exact ⟨i + 1, by omega, by go_num, HN, HA2, HB2⟩
        case measure => simp [intOf]; omega
      · have hge : ¬ (i : Int) < (n : Int) := by omega
        have q1 : ((n : Int) == (n : Int)) = true := by simp
        have HB3 := Lib.hid (HB0.out.trans (hb.out.mono HB0.out.size))
        have HO3 := Lib.hid (HO0.out.below hb.out)
        have H3 := Lib.hid (HI.out.docs _ _ _ _ x0 x1 wr HW.out.1 HW.out.2 hA.out)
        clear hU hb
        go_wp2_with fail
        refine H3.out.mono ?_
        rintro e w4 ⟨⟨v4, rfl, ⟨A4, c4, m4, F4, rfl, hE4, hI4⟩⟩, hb4⟩
        have HB4 := Lib.hid (HB3.out.trans (hb4.mono HB3.out.size))
        have HO4 := Lib.hid (HO3.out.below hb4)
        have HI4 := Lib.hid hI4
        have HE4 := Lib.hid hE4
        have H5 := Lib.hid (refDocs17_any A n c V x0 x1 w4.heap.size w4 (by omega) HO4.out.2.2.2 (Nat.le_refl _))
        clear hb4 HB3 hA HO3 H3 hE4 hI4
        go_wp2_with fail
        refine H5.out.mono ?_
        rintro e w5 ⟨⟨v5, rfl, ⟨A5, c5, m5, F5, rfl, hE5, hI5⟩⟩, hb5⟩
        obtain ⟨rfl, hF⟩ := HE4.out.one hE5
        have HB5 := Lib.hid (HB4.out.trans (hb5.mono HB4.out.size))
        have hm4 := HI4.out.2.1
        have hm5 := HI4.out.2.2.1
        have H6 := Lib.hid (refSame8_any A4 A5 m4 m4 c4 c5 F4 F5 _ _ w5 (by omega) (Nat.le_refl _) (Nat.le_refl _) (HI4.out.below hb5).2.2.2 hI5.2.2.2)
        have HF := Lib.hid hF
        clear hb5 hE5 hI5 HB4 HO4 H5 HE4 hF hm4 hm5
        go_wp2_with fail
        refine H6.out.mono ?_
        rintro e w6 ⟨b6, rfl, hb6, hb7⟩
        obtain rfl : b6 = true := hb6.2 ⟨by trivial, HF.out⟩
        have HB6 := Lib.hid (HB5.out.trans (hb7.mono HB5.out.size))
        clear hb6 hb7 H6
        go_wp2_with fail
        go_ret
        exact ⟨rfl, HB6.out⟩
end
end Go.Proofs.Ytddfaidfnmpnlaa
