/- The developers' package text: fit, laid, Pattern, Symbols. -/
import Derived.Test.YtkhkjbhhkclnlaaTxtDev
namespace Go.Proofs.Ytkhkjbhhkclnlaa
open Go.RowKit

set_option maxRecDepth 100000 in
set_option maxHeartbeats 800000 in
theorem tfit_any (P : Option Addr) (c : Nat) (L : List Part) (B : Nat) (w : World) (hL : L.length ≤ maxLen) (ho : Secs w B P L) :
    Calls Try.prog 22 #[.slice P L.length c] w fun e w' => e = .returned (.bool (decide (L.length ≤ 256 ∧ bytesT (docsP L) ≤ 65536))) ∧ w = w' := by
  have HO := Lib.hid ho
  clear ho
  obtain ⟨k, hk⟩ : ∃ k, L.length = k := ⟨_, rfl⟩
  rw [hk] at hL ⊢
  have HK := Lib.hid hk
  have hkl : k ≤ 9223372036854775807 := by unfold maxLen at hL; omega
  obtain ⟨r, hr⟩ : ∃ r, decide (k ≤ 256 ∧ bytesT (docsP L) ≤ 65536) = r := ⟨_, rfl⟩
  rw [hr]
  have HR := Lib.hid hr
  clear hk hL hr
  by_cases h256 : 256 < k
  · have hd : decide ((256 : Int) < (k : Int)) = true := by simp; omega
    obtain rfl : r = false := by rw [← HR.out]; exact decide_eq_false (by omega)
    go_enter Try.func22, Try.ntmps22
    go_wp2_with fail
    go_ret
    exact ⟨rfl, rfl⟩
  · have hd : decide ((256 : Int) < (k : Int)) = false := by simp; omega
    go_enter Try.func22, Try.ntmps22
    go_wp2_with fail
    go_loop [3, 11] (fun s v => ∃ i m : Nat, i ≤ k ∧ v = .int .i64 (i : Int) ∧ s = .int .i64 (m : Int) ∧ m ≤ 65536 ∧ Hid (bytesT ((docsP L).take i) + m = 65536)) (fun _ v => k - (intOf v).toNat)
    case atStart => exact ⟨0, 65536, Nat.zero_le _, rfl, rfl, Nat.le_refl _, Lib.hid (by simp [bytesT])⟩
    case round =>
      obtain ⟨i, m, hi, rfl, rfl, hm, hsum⟩ := hrel
      by_cases hlt : i < k
      · obtain ⟨p, hp⟩ : ∃ p, L[i]? = some p := ⟨_, List.getElem?_eq_getElem (by rw [HK.out]; exact hlt)⟩
        obtain ⟨ad, rfl, hb, hc, hnc, hcm, _, _⟩ := HO.out i p hp
        have hpm : p.c ≤ 9223372036854775807 := by unfold maxLen at hcm; omega
        have HN := Lib.hid (docs_len hp)
        have HLe := Lib.hid (bytesT_le (S := docsP L) (i + 1))
        clear hp hcm
        obtain ⟨A, z, cc, V⟩ := p
        have hlti : (i : Int) < (k : Int) := by omega
        have HN2 : Hid (bytesT ((docsP L).take (i + 1)) = bytesT ((docsP L).take i) + z) := HN
        by_cases hz : m < z
        · have hd2 : decide ((m : Int) < (z : Int)) = true := by simp; omega
          obtain rfl : r = false := by
            rw [← HR.out]
            exact decide_eq_false (by
              have h1 := HN2.out
              have h2 := HLe.out
              have h3 := hsum.out
              omega)
          go_wp2_with fail
          go_ret
          exact ⟨rfl, rfl⟩
        · have hd2 : decide ((m : Int) < (z : Int)) = false := by simp; omega
          have hw : IntKind.i64.wrap ((m : Int) - (z : Int)) = ((m - z : Nat) : Int) := by rw [IntWalk.i64_in _ (by omega)]; omega
          have HS : Hid (bytesT ((docsP L).take (i + 1)) + (m - z) = 65536) := Lib.hid (by
            have h1 := HN2.out
            have h3 := hsum.out
            omega)
          clear HN HN2 hsum
          go_wp2_with fail
          go_round
          case rel => exact ⟨i + 1, m - z, by omega, by go_num, rfl, by omega, HS⟩
          case measure => simp [intOf]; omega
      · obtain rfl : i = k := by omega
        obtain rfl : r = true := by
          rw [← HR.out]
          exact decide_eq_true ⟨by omega, by
            have h3 := hsum.out
            rw [List.take_of_length_le (by rw [docsP_length, HK.out]; exact Nat.le_refl _)] at h3
            omega⟩
        go_wp2_with fail
        go_ret
        exact ⟨rfl, rfl⟩

/-- ints, and behind them bytes as symbols of k documents. -/
def laidI (U : Nat → Int) (m k : Nat) (V : Nat → Nat) : Nat → Int := fun j => if j < m then U j else ((k + V (j - m) : Nat) : Int)
theorem laidI_zero (U : Nat → Int) (m k : Nat) (V : Nat → Nat) : icells (laidI U m k V) m = icells U m := by
  unfold icells
  refine List.map_congr_left fun j hj => ?_
  have hj : j < m := List.mem_range.1 hj
  unfold laidI
  rw [if_pos hj]
theorem laidI_at (U : Nat → Int) (m k i : Nat) (V : Nat → Nat) : laidI U m k V (m + i) = ((k + V i : Nat) : Int) := by
  unfold laidI
  rw [if_neg (by omega), Nat.add_sub_cancel_left]

section
variable {B : Nat} {w w' : World} {g : Nat} {X : Option Addr} {cx y cy : Nat} {T : List Part} {S : List Sec}
set_option maxRecDepth 100000 in
set_option maxHeartbeats 800000 in
theorem tlaid_any (h : Txt B w g X cx y cy T S) (Br : Nat) (sv : Value) (m : Nat) (U : Nat → Int) (A : Option Addr) (n c : Nat) (V : Nat → Nat) (hBr : Br ≤ w.heap.size) (hrow : w.ownsRow Br 3 1 sv m (icells U m))
    (hmn : m + n ≤ 4194304) (hA : A = none → n = 0 ∧ c = 0) (ho : Bys w Br A n V) (hkeep : ∀ W, Below Br w W → Txt B W g X cx y cy T S) :
    Calls Try.prog 24 #[.pointer (some ⟨g, 0, none⟩), sv, .slice A n c] w fun e w' => ∃ u, e = .returned u ∧ w'.ownsRow Br 3 1 u (m + n) (icells (laidI U m S.length V) (m + n)) ∧ Below Br w w' := by
  have HD : Hid (∀ W, Below Br w W → Hid (Calls Try.prog 11 #[.pointer (some ⟨g, 0, none⟩)] W fun e w' => e = .returned (.int .i64 ((S.length : Nat) : Int)) ∧ W = w')) := Lib.hid fun W hW => Lib.hid (tdocs_any (hkeep W hW))
  have hr := h.right.1
  have HO := Lib.hid ho
  obtain ⟨k, hk⟩ : ∃ k, S.length = k := ⟨_, rfl⟩
  rw [hk] at HD hr ⊢
  have HRow : Hid (w.ownsRow Br 3 1 sv (m + 0) (icells (laidI U m k V) (m + 0))) := Lib.hid (by rw [Nat.add_zero, laidI_zero]; exact hrow)
  clear h hk hkeep hrow ho
  go_enter Try.func24, Try.ntmps24
  go_wp2_with fail
  go_loopw [1, 11] (fun s v wr => ∃ i : Nat, i ≤ n ∧ v = .int .i64 (i : Int) ∧ Hid (wr.ownsRow Br 3 1 s (m + i) (icells (laidI U m k V) (m + i))) ∧ Below Br w wr) (fun _ v _ => n - (intOf v).toNat)
  case atStart => exact ⟨0, Nat.zero_le _, rfl, HRow, Below.refl _ _⟩
  case round =>
    obtain ⟨i, hi, rfl, hrow, hb⟩ := hrel
    have hbs := hb.size
    by_cases hlt : i < n
    · have hlti : (i : Int) < (n : Int) := by omega
      obtain ⟨ad, rfl, _, hc, hv⟩ := (HO.out.below hb) i hlt
      have H1 := HD.out wr hb
      have hat := laidI_at U m k i V
      have hmi : m + i ≤ 4194304 := by omega
      generalize V i = vi at hc hv hat
      have hw1 : IntKind.i64.wrap ((k : Int) + (vi : Int)) = ((k + vi : Nat) : Int) := by rw [IntWalk.i64_in _ (by omega)]; omega
      have hw2 : IntKind.i64.wrap (vi : Int) = (vi : Int) := IntWalk.i64_in _ (by omega)
      have hBs : Br ≤ wr.heap.size := by omega
      have HAt := Lib.hid hat
      clear hat
      go_wp2_with (first
        | (go_at_call 11; (with_reducible refine H1.out.mono ?_); rintro e w' ⟨rfl, rfl⟩)
        | (at_builtin; refine step_append_int rfl (.tmp 15) (.tmp 21) rfl rfl hrow.out ((k + vi : Nat) : Int) rfl hBs hmi ?_; intro v3 w3 hown3 hb3))
      go_roundw
      case rel => exact ⟨i + 1, by omega, by go_num, Lib.hid (by
        have h := hown3.out
        rw [← HAt.out, ← icells_snoc] at h
        exact h), hb.trans hb3⟩
      case measure => simp [intOf]; omega
    · obtain rfl : i = n := by omega
      go_wp2_with fail
      go_ret
      exact ⟨_, rfl, hrow.out, hb⟩

theorem make_ints (w : World) (n : Nat) (hn : n ≤ 4194304) : (Instr.makeSlice 30 (.int .i64 0) (.int .i64 (n : Int))).run Try.prog w = .ok (.slice (some ⟨w.heap.size, 0, none⟩) 0 n) (w.alloc (.cells (madeCells (Value.int .i64 0).cells (n * 1)) 3)) := by
  obtain ⟨i0, hi0, hz0, hs0, hb0⟩ := info_parts info_i64
  have h := run_make (P := Try.prog) w 30 3 i0 _ Try.underlying30 hi0 hz0 .i64 .i64 0 (n : Int) (by omega) (by omega) (by rw [hb0]; omega) (by omega)
  rw [hs0] at h
  exact h
theorem made_ints (w : World) (n : Nat) (hn : n ≤ 4194304) : (w.alloc (.cells (madeCells (Value.int .i64 0).cells (n * 1)) 3)).ownsRow w.heap.size 3 1 (.slice (some ⟨w.heap.size, 0, none⟩) 0 n) 0 [] :=
  World.ownsRow_made w _ n (Nat.le_refl _) (by unfold maxLen; omega) (size_madeCells _ _)

set_option maxRecDepth 100000 in
set_option maxHeartbeats 800000 in
theorem tpattern_any (h : Txt B w g X cx y cy T S) (A : Option Addr) (n c : Nat) (V : Nat → Nat) (hn : n ≤ 4000000) (hA : A = none → n = 0 ∧ c = 0) (ho : Bys w w.heap.size A n V) :
    Calls Try.prog 21 #[.pointer (some ⟨g, 0, none⟩), .slice A n c] w fun e w' => ∃ u, e = .returned u ∧ w'.ownsRow w.heap.size 3 1 u n (icells (fun k => ((S.length + V k : Nat) : Int)) n) ∧ Below w.heap.size w w' := by
  have hmk := make_ints w n (by omega)
  have hrow := made_ints w n (by omega)
  obtain ⟨W1, hW1⟩ : ∃ W, w.alloc (.cells (madeCells (Value.int .i64 0).cells (n * 1)) 3) = W := ⟨_, rfl⟩
  have hb1 : Below w.heap.size w W1 := by rw [← hW1]; exact (Below.refl _ _).alloc (Nat.le_refl _) _
  rw [hW1] at hmk hrow
  have hL := Lib.hid (tlaid_any (h.keep hb1) w.heap.size _ 0 (fun _ => 0) A n c V hb1.size hrow (by omega) hA (ho.below hb1) (fun W hW => h.keep (hb1.trans hW)))
  have HB1 := Lib.hid hb1
  clear h hrow ho hb1 hW1
  rw [Nat.zero_add] at hL
  go_enter Try.func21, Try.ntmps21
  go_wp2_with (go_at_call 24; (with_reducible refine hL.out.mono ?_); rintro e w2 ⟨u, rfl, hu, hb2⟩)
  go_ret
  refine ⟨_, rfl, ?_, HB1.out.trans hb2⟩
  have e : icells (laidI (fun _ => 0) 0 S.length V) n = icells (fun k => ((S.length + V k : Nat) : Int)) n := by
    unfold icells
    refine List.map_congr_left fun j _ => ?_
    unfold laidI
    rw [if_neg (Nat.not_lt_zero j)]
    rfl
  rw [← e]
  exact hu
theorem tpattern_nil (A : Option Addr) (n c : Nat) (w : World) : Calls Try.prog 21 #[.pointer none, .slice A n c] w fun e w' => e = .returned (.slice none 0 0) ∧ w = w' := by
  go_enter Try.func21, Try.ntmps21
  go_wp2_with fail
  go_ret
  exact ⟨rfl, rfl⟩

/-- a document's symbols, behind those of the documents ahead of it. -/
theorem sym_next {S : List Sec} {d : Nat} {x : Sec} (h : S[d]? = some x) : icells (laidI (symI S) (offT S d) S.length x.V) (offT S d + x.n) ++ [.int .i64 (d : Int)] = icells (symI S) (offT S (d + 1)) := by
  rw [offT_succ h, show offT S d + (x.n + 1) = offT S d + x.n + 1 by omega, icells_snoc]
  congr 1
  · unfold icells
    refine List.map_congr_left fun j hj => ?_
    have hj : j < offT S d + x.n := List.mem_range.1 hj
    unfold laidI
    split
    · rfl
    · unfold symI
      have e : j = offT S d + (j - offT S d) := by omega
      rw [e, sym_byte h (by omega), Nat.add_sub_cancel_left]
  · unfold symI
    rw [sym_end h]

set_option maxRecDepth 100000 in
set_option maxHeartbeats 800000 in
theorem tsymbols_any (h : Txt B w g X cx y cy T S) :
    Calls Try.prog 15 #[.pointer (some ⟨g, 0, none⟩)] w fun e w' => ∃ u, e = .returned u ∧ w'.ownsRow w.heap.size 3 1 u (lenT S) (icells (symI S) (lenT S)) ∧ Below w.heap.size w w' := by
  have HT : Hid (∀ W, Below w.heap.size w W → Txt B W g X cx y cy T S) := Lib.hid fun W hW => h.keep hW
  have HLen := Lib.hid ((tlen_any h).mono fun e w' (hh : _ ∧ ∃ q, w' = w.drewN q) => (show e = .returned (.int .i64 ((lenT S : Nat) : Int)) ∧ Below w.heap.size w w' from ⟨hh.1, by
    obtain ⟨q, hq⟩ := hh.2
    rw [hq]
    exact below_drewN' (Below.refl _ _) q⟩))
  have hr := h.right.1
  have hcx := owns_room h.docs
  have HOff : Hid (∀ d, d ≤ S.length → offT S d ≤ 65792) := Lib.hid fun d hd => h.off_le hd
  obtain ⟨k, hk⟩ : ∃ k, S.length = k := ⟨_, rfl⟩
  rw [hk] at hr hcx HOff
  have hcm : cx ≤ 9223372036854775807 := by have := hcx.2; unfold maxLen at this; omega
  have hcl := hcx.1
  have HN : Hid (lenT S = offT S k) := Lib.hid (by unfold lenT; rw [hk])
  have hN := HOff.out k (Nat.le_refl _)
  rw [← HN.out] at hN
  obtain ⟨N, hNN⟩ : ∃ N, lenT S = N := ⟨_, rfl⟩
  rw [hNN] at HN HLen hN ⊢
  have HK := Lib.hid hk
  clear h hk hNN hcx
  go_enter Try.func15, Try.ntmps15
  go_wp2_with fail
  refine HLen.out.mono ?_
  rintro e w1 ⟨rfl, hb1⟩
  have hmk := make_ints w1 N (by omega)
  have hrow := made_ints w1 N (by omega)
  obtain ⟨W2, hW2⟩ : ∃ W, w1.alloc (.cells (madeCells (Value.int .i64 0).cells (N * 1)) 3) = W := ⟨_, rfl⟩
  have hb2 : Below w1.heap.size w1 W2 := by rw [← hW2]; exact (Below.refl _ _).alloc (Nat.le_refl _) _
  rw [hW2] at hmk hrow
  have hB2 := hb1.trans (hb2.mono hb1.size)
  have hrow2 : Hid (W2.ownsRow w.heap.size 3 1 (.slice (some ⟨w1.heap.size, 0, none⟩) 0 N) (offT S 0) (icells (symI S) (offT S 0))) := Lib.hid (by
    rcases hrow.2 with ⟨e, _⟩ | ⟨g', cap, cur, e, h1, h2⟩
    · cases e
    · exact ⟨rfl, .inr ⟨g', cap, cur, e, Nat.le_trans hb1.size h1, h2⟩⟩)
  have hh := (HT.out W2 hB2).c0
  rw [HK.out] at hh
  clear hrow hb1 hb2 HLen hW2
  go_wp2_with fail
  go_loopw [3, 16] (fun s v wr => ∃ d : Nat, d ≤ k ∧ v = .int .i64 (d : Int) ∧ Hid (wr.ownsRow w.heap.size 3 1 s (offT S d) (icells (symI S) (offT S d))) ∧ Below w.heap.size w wr) (fun _ v _ => k - (intOf v).toNat)
  case atStart => exact ⟨0, Nat.zero_le _, rfl, hrow2, hB2⟩
  case round =>
    obtain ⟨d, hd, rfl, hrow, hb⟩ := hrel
    have hbs := hb.size
    by_cases hlt : d < k
    · have hlti : (d : Int) < (k : Int) := by omega
      obtain ⟨gx, p, rfl, hp, hS, hc, hown⟩ := (HT.out wr hb).doc (by rw [HK.out]; exact hlt)
      obtain ⟨e1, e2, e3, e4⟩ := hown.bys
      have ho0 := HOff.out d (by omega)
      have ho1 := HOff.out (d + 1) (by omega)
      have hsc := offT_succ hS
      have hby : Bys wr w.heap.size p.A p.n p.V := by
        obtain ⟨_, p0, _, hp0, _, _, hown0⟩ := (HT.out w (Below.refl _ _)).doc (by rw [HK.out]; exact hlt)
        rw [hp] at hp0
        cases hp0
        exact hown0.bys.2.2.2.below hb
      have hpn : p.n ≤ 65792 := by
        have : p.sec.n = p.n := rfl
        omega
      have HL := Lib.hid (tlaid_any (HT.out wr hb) w.heap.size u3 (offT S d) (symI S) p.A p.n p.c p.V hbs hrow.out (by omega) e3 hby (fun W hW => HT.out W (hb.trans hW)))
      have HSy := Lib.hid (sym_next hS)
      have HSc := Lib.hid hsc
      clear hp hS hown e1 e2 e3 e4 hby hsc
      obtain ⟨A, z, cc, V⟩ := p
      have HSy : Hid (icells (laidI (symI S) (offT S d) S.length V) (offT S d + z) ++ [.int .i64 (d : Int)] = icells (symI S) (offT S (d + 1))) := HSy
      have HSc : Hid (offT S (d + 1) = offT S d + (z + 1)) := HSc
      have hmo : offT S d + z ≤ 4194304 := by
        have hpn : z ≤ 65792 := hpn
        omega
      have HL : Hid (Calls Try.prog 24 #[.pointer (some ⟨g, 0, none⟩), u3, .slice A z cc] wr fun e w' => ∃ u, e = .returned u ∧ w'.ownsRow w.heap.size 3 1 u (offT S d + z) (icells (laidI (symI S) (offT S d) S.length V) (offT S d + z)) ∧ Below w.heap.size wr w') := HL
      go_wp2_with (first
        | (go_at_call 24; (with_reducible refine HL.out.mono ?_); rintro e w3 ⟨uu, rfl, hu3, hb3⟩; have hB3 := hb.trans hb3; have hs3 := hB3.size)
        | (at_builtin; refine step_append_int rfl (.tmp 24) (.tmp 26) rfl rfl hu3 (d : Int) rfl hs3 hmo ?_; intro v4 w4 hown4 hb4))
      go_roundw
      case rel => exact ⟨d + 1, by omega, by go_num, Lib.hid (by
        have h := hown4.out
        rw [HSy.out] at h
        rw [HSc.out] at h ⊢
        exact h), hB3.trans hb4⟩
      case measure => simp [intOf]; omega
    · obtain rfl : d = k := by omega
      go_wp2_with fail
      go_ret
      exact ⟨_, rfl, by rw [HN.out]; exact hrow.out, hb⟩
theorem tsymbols_nil (w : World) : Calls Try.prog 15 #[.pointer none] w fun e w' => e = .returned (.slice none 0 0) ∧ w = w' := by
  go_enter Try.func15, Try.ntmps15
  go_wp2_with fail
  go_ret
  exact ⟨rfl, rfl⟩
end
end Go.Proofs.Ytkhkjbhhkclnlaa
