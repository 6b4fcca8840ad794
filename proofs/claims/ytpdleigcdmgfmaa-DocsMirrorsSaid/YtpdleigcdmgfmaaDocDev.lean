/- The developers' package docs but Ahead: moved, hasEach, Array, Back, Count. -/
import Derived.Test.YtpdleigcdmgfmaaDocI
import Derived.Test.YtpdleigcdmgfmaaIMap
import Derived.Test.YtpdleigcdmgfmaaTxtDoc
import Derived.Test.YtpdleigcdmgfmaaTxtNew
import Derived.Test.YtpdleigcdmgfmaaSaTurn
namespace Go.Proofs.Ytpdleigcdmgfmaa
open Go.RowKit

set_option maxRecDepth 100000 in
/-- where d stood; it stands at i now. -/
theorem moved_any (b k : Nat) (g : Int → Option Int) (d i x : Int) (w : World) (hm : IMap w b k g) (hk : k < maxLen) (hd : (Lit.int .i64 d).wf = true) (hi : (Lit.int .i64 i).wf = true) :
    Calls Try.prog 26 #[.map (some b), .int .i64 d, .int .i64 i, .int .i64 x] w fun e w' => e = .returned (.int .i64 ((g d).getD x)) ∧ IMap w' b (k + 1) (putO g d i) ∧ w.grownBy w' (some b) := by
  have HM := Lib.hid hm
  clear hm
  rcases hg : g d with _ | y
  · have HG := Lib.hid hg
    clear hg
    go_enter Try.func26, Try.ntmps26
    go_wp2_with (first
      | (at_lookup; refine wpList_imap_miss _ rfl _ _ _ rfl Try.underlying52 b k g rfl HM.out d rfl hd HG.out ?_; intro c)
      | (at_mapUpdate; refine wpList_imap_put _ rfl _ _ _ _ rfl Try.underlying52 b k g rfl HM.out hk d i rfl rfl hd hi ?_; intro w1 h1 h2)
      | go_in)
    go_ret
    exact ⟨rfl, h1, h2⟩
  · have HG := Lib.hid hg
    clear hg
    go_enter Try.func26, Try.ntmps26
    go_wp2_with (first
      | (at_lookup; refine wpList_imap_hit _ rfl _ _ _ rfl Try.underlying52 b k g rfl HM.out d y rfl hd HG.out ?_)
      | (at_mapUpdate; refine wpList_imap_put _ rfl _ _ _ _ rfl Try.underlying52 b k g rfl HM.out hk d i rfl rfl hd hi ?_; intro w1 h1 h2)
      | go_in)
    go_ret
    exact ⟨rfl, h1, h2⟩

set_option maxRecDepth 100000 in
theorem hasEach_is (A : Option Addr) (n c m : Nat) (V : Nat → Int) (w : World) (hn : n ≤ 4194304) (ho : Its w w.heap.size A n V) (b : Bool) (hb : b = true ↔ n = m ∧ IsPerm V n) :
    Calls Try.prog 23 #[.slice A n c, .int .i64 (m : Int)] w fun e w' => e = .returned (.bool b) ∧ Below w.heap.size w w' := by
  have HT := Lib.hid (turn_any A n c V w hn ho)
  have HB := Lib.hid hb
  clear hb ho
  by_cases hnm : n = m
  · subst hnm
    have g1 : ((n : Int) != (n : Int)) = false := by simp
    go_enter Try.func23, Try.ntmps23
    go_wp2_with fail
    refine HT.out.mono ?_
    rintro e w' ⟨h1, h2, h3⟩
    by_cases hp : IsPerm V n
    · obtain ⟨A', c', R, rfl, _, _⟩ := h1 hp
      obtain rfl : b = true := HB.out.2 ⟨by trivial, hp⟩
      clear h1 h2 HB HT
      go_wp2_with fail
      go_ret
      exact ⟨rfl, h3⟩
    · obtain ⟨A', c', rfl⟩ := h2 hp
      obtain rfl : b = false := by
        rcases b with _ | _
        · rfl
        · exact absurd (HB.out.1 rfl).2 hp
      clear h1 h2 HB HT
      go_wp2_with fail
      go_ret
      exact ⟨rfl, h3⟩
  · have g1 : ((n : Int) != (m : Int)) = true := by rw [bne_iff_ne]; omega
    have g2 : ¬ (n : Int) = (m : Int) := by omega
    obtain rfl : b = false := by
      rcases b with _ | _
      · rfl
      · exact absurd (HB.out.1 rfl).1 hnm
    clear HB HT
    go_enter Try.func23, Try.ntmps23
    go_wp2_with fail
    go_ret
    exact ⟨rfl, Below.refl _ _⟩

set_option maxRecDepth 100000 in
theorem docArrayNil_any (w : World) : Calls Try.prog 10 #[.pointer none, .slice none 0 0] w fun e w' => (∃ (A2 : Option Addr) (c2 : Nat), e = .returned (.tuple #[.slice A2 0 c2, .int .i64 1])) ∧ Below w.heap.size w w' := by
  go_enter Try.func10, Try.ntmps10
  go_wp2_with fail
  go_ret2
  exact ⟨⟨none, 0, rfl⟩, Below.refl _ _⟩

theorem itsR_lies {w : World} {g n : Nat} {U V : Nat → Int} (h : Lies w g 3 (icells U n)) (hn : n ≤ 4194304) (hU : ∀ j, j < n → U j = V j) (hV : ∀ j, j < n → -9223372036854775808 ≤ V j ∧ V j ≤ 9223372036854775807) : ItsR w (some ⟨g, 0, none⟩) n n V :=
  ⟨(fun e => by cases e), Nat.le_refl _, by unfold maxLen; omega, fun k hk => ⟨_, rfl, h.lt, by
    rw [Addr.add_mid, Nat.zero_add, h.cell, ← hU k hk]
    exact icells_at _ _ _ hk, hV k hk⟩⟩

set_option maxRecDepth 100000 in
set_option maxHeartbeats 1600000 in
theorem docArray_any {B : Nat} {w : World} {g : Nat} {X : Option Addr} {cx y cy : Nat} {T : List Part} {S : List Sec} (h : Txt B w g X cx y cy T S) (A : Option Addr) (n c : Nat) (V : Nat → Int) (hn : n ≤ 4194303) (ho : ItsR w A n c V) :
    Calls Try.prog 10 #[.pointer (some ⟨g, 0, none⟩), .slice A n c] w fun e w' =>
      (n = lenT S ∧ IsPerm V n → ∃ (A2 : Option Addr) (c2 : Nat), e = .returned (.tuple #[.slice A2 n c2, .int .i64 0]) ∧ ItsR w' A2 n c2 (docAt S V)) ∧ (¬ (n = lenT S ∧ IsPerm V n) → ∃ (A2 : Option Addr) (c2 : Nat), e = .returned (.tuple #[.slice A2 0 c2, .int .i64 2])) ∧ Below w.heap.size w w' := by
  have HX := Lib.hid h
  have HO := Lib.hid ho
  have HL := Lib.hid (tlen_any h)
  have HS : Hid (∀ j, -9223372036854775808 ≤ docAt S V j ∧ docAt S V j ≤ 9223372036854775807) := Lib.hid fun j => by
    have h1 := docAt_room (S := S) (p := V j)
    have h2 := h.right.1
    unfold docAt
    omega
  clear h ho
  obtain ⟨N, hN⟩ : ∃ N, lenT S = N := ⟨_, rfl⟩
  rw [hN] at HL ⊢
  clear hN
  by_cases hok : n = N ∧ IsPerm V n
  · have HB : ∀ q, Hid (Calls Try.prog 23 #[.slice A n c, .int .i64 (N : Int)] (w.drewN q) fun e w' => e = .returned (.bool true) ∧ Below (w.drewN q).heap.size (w.drewN q) w') := fun q => Lib.hid (hasEach_is A n c N V (w.drewN q) (by omega) (HO.out.below (below_drewN' (Below.refl _ _) q)).2.2.2 true ⟨fun _ => hok, fun _ => rfl⟩)
    have HK := Lib.hid hok
    clear hok
    go_enter Try.func10, Try.ntmps10
    go_wp2_with fail
    refine HL.out.mono ?_
    rintro e w0 ⟨rfl, q, rfl⟩
    go_wp2_with fail
    refine (HB q).out.mono ?_
    rintro e w1 ⟨rfl, hb1⟩
    have hB1 : Below w.heap.size w w1 := (below_drewN' (Below.refl _ _) q).trans hb1
    have hMk := make_ints0 w1 n (by omega)
    have l2 := lies_new w1 3 (icells (fun _ => 0) n)
    have hb2 : Below w1.heap.size w1 (w1.alloc (.cells (icells (fun _ => 0) n).toArray 3)) := (Below.refl _ _).alloc (Nat.le_refl _) _
    obtain ⟨w2, hw2⟩ : ∃ w2, w1.alloc (.cells (icells (fun _ => 0) n).toArray 3) = w2 := ⟨_, rfl⟩
    rw [hw2] at hMk l2 hb2
    have hB2 := hB1.trans (hb2.mono hB1.size)
    have hgs := hB1.size
    obtain ⟨G, hG⟩ : ∃ G, w1.heap.size = G := ⟨_, rfl⟩
    rw [hG] at hMk l2 hgs
    clear hb1 hB1 hb2 hw2 HL HB
    go_wp2_with fail
    go_loopw [21] (fun s wr => ∃ i : Nat, i ≤ n ∧ s = .int .i64 (i : Int) ∧ Hid (∃ U, Lies wr G 3 (icells U n) ∧ ∀ j, j < i → U j = docAt S V j) ∧ Below w.heap.size w wr) (fun s _ => n - (intOf s).toNat)
    case atStart => exact ⟨0, Nat.zero_le _, rfl, Lib.hid ⟨_, l2, fun j hj => absurd hj (Nat.not_lt_zero j)⟩, hB2⟩
    case round =>
      clear l2 hB2 hG hMk
      obtain ⟨i, hi, rfl, hU, hb⟩ := hrel
      by_cases hlt : i < n
      · have hlti : (i : Int) < (n : Int) := by omega
        obtain ⟨ad, rfl, _, hc, hv1, hv2⟩ := HO.out.2.2.2.below hb i hlt
        have HD := Lib.hid (tdoc_any (HX.out.keep hb) (V i) (HO.out.2.2.2.wf hlt))
        have HE : Hid ((docI S (V i)).1 = docAt S V i) := Lib.hid rfl
        obtain ⟨U, hL, hd⟩ := hU.out
        obtain ⟨v, hv⟩ : ∃ v, V i = v := ⟨_, rfl⟩
        rw [hv] at hc hv1 hv2 HD HE
        obtain ⟨o, hoo⟩ : ∃ o, (docI S v).2 = o := ⟨_, rfl⟩
        rw [hoo, HE.out] at HD
        clear hU hv hoo HE
        go_wp2_with fail
        refine HD.out.mono ?_
        rintro e w3 ⟨rfl, hb3⟩
        have l3 : Lies w3 G 3 (icells U n) := hL.below hb3 hL.lt
        have hcell : w3.cell? ⟨G, i, none⟩ = some (.int .i64 (U i)) := by
          rw [l3.cell]
          exact icells_at _ _ _ hlt
        have hfree := l3.free i
        have hB3 := hb.trans (hb3.mono hb.size)
        obtain ⟨z, hz⟩ : ∃ z, docAt S V i = z := ⟨_, rfl⟩
        have HU2 : Hid (∃ U', Lies (w3.setCell ⟨G, i, none⟩ (.int .i64 (docAt S V i))) G 3 (icells U' n) ∧ ∀ j, j < i + 1 → U' j = docAt S V j) := Lib.hid ⟨putI U i (docAt S V i), by
          have := l3.put i (.int .i64 (docAt S V i))
          rw [icells_put] at this
          exact this, fun j hj => by
            by_cases e : j = i
            · rw [e, putI_at]
            · rw [putI_off _ e]; exact hd j (by omega)⟩
        rw [hz] at HU2 ⊢
        have hB4 : Below w.heap.size w (w3.setCell ⟨G, i, none⟩ (.int .i64 z)) := hB3.setCell (p := ⟨G, i, none⟩) hgs _
        clear hz hL hd l3 hB3 hb3 HD hb
        go_wp2_with fail
        go_roundw
        case rel => exact ⟨i + 1, by omega, by go_num, HU2, hB4⟩
        case measure => simp [intOf]; omega
      · obtain rfl : i = n := by omega
        have hge : ¬ (i : Int) < (i : Int) := by omega
        go_wp2_with fail
        go_ret2
        exact ⟨fun _ _ => ⟨_, i, rfl, by
          obtain ⟨U, hL, hd⟩ := hU.out
          exact itsR_lies hL (by omega) hd (fun j _ => HS.out j)⟩, fun hh => absurd HK.out.2 (hh HK.out.1), hb⟩
  · have HB : ∀ q, Hid (Calls Try.prog 23 #[.slice A n c, .int .i64 (N : Int)] (w.drewN q) fun e w' => e = .returned (.bool false) ∧ Below (w.drewN q).heap.size (w.drewN q) w') := fun q => Lib.hid (hasEach_is A n c N V (w.drewN q) (by omega) (HO.out.below (below_drewN' (Below.refl _ _) q)).2.2.2 false ⟨fun e => (by cases e), fun hh => absurd hh hok⟩)
    have HK := Lib.hid hok
    clear hok
    go_enter Try.func10, Try.ntmps10
    go_wp2_with fail
    refine HL.out.mono ?_
    rintro e w0 ⟨rfl, q, rfl⟩
    go_wp2_with fail
    refine (HB q).out.mono ?_
    rintro e w1 ⟨rfl, hb1⟩
    have hB1 : Below w.heap.size w w1 := (below_drewN' (Below.refl _ _) q).trans hb1
    clear hb1 HL HB
    go_wp2_with fail
    go_ret2
    exact ⟨fun hh => absurd hh HK.out, fun _ => ⟨none, 0, rfl⟩, hB1⟩

/-- behind i places: at each number where it stood last. -/
def StoodB (V : Nat → Int) (i : Nat) (g : Int → Option Int) : Prop := ∀ x, (g x).getD (-1) = lookB V x i
theorem StoodB.step {V : Nat → Int} {i : Nat} {g : Int → Option Int} (h : StoodB V i g) : StoodB V (i + 1) (putO g (V i) (i : Int)) := fun x => by
  by_cases e : x = V i
  · rw [e, putO_at, lookB_hit rfl]
    rfl
  · rw [putO_off e, lookB_miss (fun e' => e e'.symm)]
    exact h x

set_option maxRecDepth 100000 in
set_option maxHeartbeats 1600000 in
theorem docBack_any (A : Option Addr) (n c : Nat) (V : Nat → Int) (w : World) (hn : n ≤ 4194303) (ho : ItsR w A n c V) :
    Calls Try.prog 14 #[.slice A n c] w fun e w' => (∃ (A2 : Option Addr) (c2 : Nat), e = .returned (.slice A2 n c2) ∧ ItsR w' A2 n c2 (lastD V)) ∧ Below w.heap.size w w' := by
  have HO := Lib.hid ho
  clear ho
  have hMk := make_ints0 w n (by omega)
  have l2 := lies_new w 3 (icells (fun _ => 0) n)
  have hb2 : Below w.heap.size w (w.alloc (.cells (icells (fun _ => 0) n).toArray 3)) := (Below.refl _ _).alloc (Nat.le_refl _) _
  have hs2 : (w.alloc (.cells (icells (fun _ => 0) n).toArray 3)).heap.size = w.heap.size + 1 := size_alloc _ _
  obtain ⟨w2, hw2⟩ : ∃ w2, w.alloc (.cells (icells (fun _ => 0) n).toArray 3) = w2 := ⟨_, rfl⟩
  rw [hw2] at hMk l2 hb2 hs2
  have hmm := run_makeMap (P := Try.prog) 52 w2
  have m3 := imap_made w2
  have hb3 : Below w.heap.size w (w2.alloc (.map #[] 0)) := hb2.alloc hb2.size _
  have l3 := l2.alloc (.map #[] 0)
  obtain ⟨w3, hw3⟩ : ∃ w3, w2.alloc (.map #[] 0) = w3 := ⟨_, rfl⟩
  rw [hw3] at m3 hb3 l3 hmm
  rw [hs2] at m3 hmm
  obtain ⟨G, hG⟩ : ∃ G, w.heap.size = G := ⟨_, rfl⟩
  rw [hG] at hMk l3 m3 hb3 hmm ⊢
  have HO' : Hid (Its w G A n V) := Lib.hid (by rw [← hG]; exact HO.out.2.2.2)
  have hGle : G ≤ w.heap.size := Nat.le_of_eq hG.symm
  clear l2 hb2 HO hw2 hw3 hs2 hG
  go_enter Try.func14, Try.ntmps14
  go_wp2_with fail
  go_loopw [13] (fun s wr => ∃ i : Nat, i ≤ n ∧ s = .int .i64 (i : Int) ∧ Hid (∃ U, Lies wr G 3 (icells U n) ∧ ∀ j, j < i → U j = lastD V j) ∧ Hid (∃ g, IMap wr (G + 1) i g ∧ StoodB V i g) ∧ Below G w wr) (fun s _ => n - (intOf s).toNat)
  case atStart => exact ⟨0, Nat.zero_le _, rfl, Lib.hid ⟨_, l3, fun j hj => absurd hj (Nat.not_lt_zero j)⟩, Lib.hid ⟨_, m3, fun _ => rfl⟩, hb3⟩
  case round =>
    clear l3 m3 hb3 hMk hmm
    obtain ⟨i, hi, rfl, hU, hM, hb⟩ := hrel
    by_cases hlt : i < n
    · have hlti : (i : Int) < (n : Int) := by omega
      obtain ⟨ad, rfl, _, hc, hv1, hv2⟩ := HO'.out.below hb i hlt
      obtain ⟨g, hg, hs⟩ := hM.out
      have HMv := Lib.hid (moved_any (G + 1) i g (V i) (i : Int) (-1) wr hg (by unfold maxLen; omega) (HO'.out.wf hlt) (WalkArith.wf_i64 (by omega)))
      have HE : Hid ((g (V i)).getD (-1) = lastD V i) := Lib.hid (hs (V i))
      have HS2 := Lib.hid hs.step
      obtain ⟨U, hL, hd⟩ := hU.out
      rw [HE.out] at HMv
      obtain ⟨v, hv⟩ : ∃ v, V i = v := ⟨_, rfl⟩
      rw [hv] at hc hv1 hv2 HMv HS2
      obtain ⟨z, hz⟩ : ∃ z, lastD V i = z := ⟨_, rfl⟩
      rw [hz] at HMv
      have HZ := Lib.hid hz
      clear hU hM hg hs hv HE hz
      go_wp2_with fail
      refine HMv.out.mono ?_
      rintro e w3 ⟨rfl, m3, g3⟩
      have l3 : Lies w3 G 3 (icells U n) := hL.grown g3 (fun e => by injection e with e; omega)
      have hb3 : Below G w w3 := hb.grown g3 (Nat.le_trans hGle hb.size) (fun j hj => by cases hj; omega)
      have hcell : w3.cell? ⟨G, i, none⟩ = some (.int .i64 (U i)) := by
        rw [l3.cell]
        exact icells_at _ _ _ hlt
      have hfree := l3.free i
      have HU2 : Hid (∃ U', Lies (w3.setCell ⟨G, i, none⟩ (.int .i64 z)) G 3 (icells U' n) ∧ ∀ j, j < i + 1 → U' j = lastD V j) := Lib.hid ⟨putI U i z, by
        have := l3.put i (.int .i64 z)
        rw [icells_put] at this
        exact this, fun j hj => by
          by_cases e : j = i
          · rw [e, putI_at, HZ.out]
          · rw [putI_off _ e]; exact hd j (by omega)⟩
      have HM2 : Hid (∃ g, IMap (w3.setCell ⟨G, i, none⟩ (.int .i64 z)) (G + 1) (i + 1) g ∧ StoodB V (i + 1) g) := Lib.hid ⟨_, m3.same (Below.heap_setCell _ _ _ _ (by show G + 1 ≠ G; omega)), HS2.out⟩
      have hB4 : Below G w (w3.setCell ⟨G, i, none⟩ (.int .i64 z)) := hb3.setCell (p := ⟨G, i, none⟩) (Nat.le_refl _) _
      clear HMv HS2 HZ m3 g3 l3 hb3 hL hd hb
      go_wp2_with fail
      go_roundw
      case rel => exact ⟨i + 1, by omega, by go_num, HU2, HM2, hB4⟩
      case measure => simp [intOf]; omega
    · obtain rfl : i = n := by omega
      have hge : ¬ (i : Int) < (i : Int) := by omega
      go_wp2_with fail
      go_ret
      obtain ⟨U, hL, hd⟩ := hU.out
      exact ⟨⟨_, i, rfl, itsR_lies hL (by omega) hd (fun j hj => by
        have := lastD_room V j
        omega)⟩, hb⟩

theorem cntR_none {V : Nat → Int} {d a b : Int} : ∀ {m : Nat}, (∀ j, j < m → ¬ (V j = d ∧ a ≤ (j : Int) ∧ (j : Int) < b)) → cntR V d a b m = 0
  | 0, _ => rfl
  | m + 1, h => by rw [cntR_miss (h m (by omega)), cntR_none (fun j hj => h j (by omega))]
theorem cntR_above {V : Nat → Int} {d a b : Int} {m : Nat} (hm : b ≤ (m : Int)) : ∀ k, cntR V d a b (m + k) = cntR V d a b m
  | 0 => rfl
  | k + 1 => by
    rw [← Nat.add_assoc, cntR_miss (fun h => by omega)]
    exact cntR_above hm k

set_option maxRecDepth 100000 in
set_option maxHeartbeats 1600000 in
theorem docCount_any (A : Option Addr) (n c : Nat) (V : Nat → Int) (d a b : Int) (w : World) (hn : n ≤ 4194303) (ha : (Lit.int .i64 a).wf = true) (hb : (Lit.int .i64 b).wf = true) (ho : ItsR w A n c V) :
    Calls Try.prog 19 #[.slice A n c, .int .i64 d, .int .i64 a, .int .i64 b] w fun e w' => e = .returned (.int .i64 ((cntR V d a b n : Nat) : Int)) ∧ Below w.heap.size w w' := by
  have HO := Lib.hid ho.2.2.2
  clear ho
  have ha1 := i64_in ha
  have hb1 := i64_in hb
  obtain ⟨lo, hlo, hlo1, hlo2⟩ : ∃ lo : Nat, max a 0 = (lo : Int) ∧ lo ≤ 9223372036854775807 ∧ ∀ j : Nat, j < lo → (j : Int) < a := by
    by_cases h : 0 ≤ a
    · exact ⟨a.toNat, by omega, by omega, fun j hj => by omega⟩
    · exact ⟨0, by omega, by omega, fun j hj => by omega⟩
  obtain ⟨z, hz⟩ : ∃ z : Int, min b (n : Int) = z := ⟨_, rfl⟩
  have hz1 : z ≤ (n : Int) := by omega
  have HZ : Hid ((z = (n : Int) ∧ (n : Int) ≤ b) ∨ (z = b ∧ b ≤ (n : Int))) := Lib.hid (by omega)
  have HLo := Lib.hid hlo2
  have HA : Hid (max a 0 = (lo : Int)) := Lib.hid hlo
  have h0 : Hid (0 = cntR V d a b (Nat.min lo n)) := Lib.hid (Eq.symm (cntR_none fun j hj h => by
    have h1 := hlo2 j (Nat.lt_of_lt_of_le hj (Nat.min_le_left _ _))
    omega))
  clear hlo2 hb1 ha1
  have hA : (a < 0 ∧ Hid (0 = (lo : Int))) ∨ (¬ a < 0 ∧ Hid (a = (lo : Int))) := by
    by_cases h : a < 0
    · exact .inl ⟨h, Lib.hid (by omega)⟩
    · exact .inr ⟨h, Lib.hid (by omega)⟩
  have hB : ((n : Int) < b ∧ Hid ((n : Int) = z)) ∨ (¬ (n : Int) < b ∧ Hid (b = z)) := by
    by_cases h : (n : Int) < b
    · exact .inl ⟨h, Lib.hid (by omega)⟩
    · exact .inr ⟨h, Lib.hid (by omega)⟩
  have HZ1 := Lib.hid hz1
  clear hlo hz hz1
  rcases hA with ⟨ha0, hl0⟩ | ⟨ha0, hl0⟩ <;> rcases hB with ⟨hb0, hz0⟩ | ⟨hb0, hz0⟩
  all_goals
    go_enter Try.func19, Try.ntmps19
    go_wp2_with fail
    go_loop [9, 10] (fun u v => ∃ i m : Nat, i ≤ 9223372036854775807 ∧ lo ≤ i ∧ m ≤ n ∧ u = .int .i64 (m : Int) ∧ v = .int .i64 (i : Int) ∧ Hid (m = cntR V d a b (Nat.min i n))) (fun _ v => n - (intOf v).toNat)
    case atStart => exact ⟨lo, 0, hlo1, Nat.le_refl _, Nat.zero_le _, rfl, by rw [← hl0.out], h0⟩
    case round =>
      clear h0
      obtain ⟨i, m, hi, hli, hmn, rfl, rfl, hm⟩ := hrel
      by_cases hlt : (i : Int) < z
      · have hin : i < n := by have := HZ1.out; omega
        have hid : (i : Int) < (n : Int) := by omega
        have hbi : (i : Int) < b := by have := HZ.out; omega
        have e0 : Nat.min i n = i := Nat.min_eq_left (by omega)
        have e1 : Nat.min (i + 1) n = i + 1 := Nat.min_eq_left (by omega)
        have hai : a ≤ (i : Int) := by have := HA.out; omega
        have hmi : m ≤ i := by rw [hm.out, e0]; exact cntR_le _ _ _ _ _
        obtain ⟨ad, rfl, _, hc, hv1, hv2⟩ := HO.out i hin
        by_cases hx : V i = d
        · have HM : Hid (m + 1 = cntR V d a b (Nat.min (i + 1) n)) := Lib.hid (by rw [e1, cntR_hit ⟨hx, hai, hbi⟩, hm.out, e0])
          rw [hx] at hc
          have g1 : (d == d) = true := by simp
          clear e0 e1 hm hx hai hv1 hv2
          go_wp2_with fail
          go_round
          case rel => exact ⟨i + 1, m + 1, by omega, by omega, by omega, by go_num, by go_num, HM⟩
          case measure => simp [intOf]; omega
        · have HM : Hid (m = cntR V d a b (Nat.min (i + 1) n)) := Lib.hid (by rw [e1, cntR_miss (fun h => hx h.1), hm.out, e0])
          have g1 : (V i == d) = false := by rw [beq_eq_false_iff_ne]; exact hx
          generalize V i = x at hc hx g1 hv1 hv2
          clear e0 e1 hm hai hv1 hv2
          go_wp2_with fail
          go_round
          case rel => exact ⟨i + 1, m, by omega, by omega, by omega, rfl, by go_num, HM⟩
          case measure => simp [intOf]; omega
      · have hE : Hid (m = cntR V d a b n) := Lib.hid (by
          rw [hm.out]
          rcases HZ.out with ⟨e, _⟩ | ⟨e, h⟩
          · rw [show Nat.min i n = n from Nat.min_eq_right (by omega)]
          · by_cases hin : i ≤ n
            · rw [show Nat.min i n = i from Nat.min_eq_left hin]
              obtain ⟨k, rfl⟩ : ∃ k, n = i + k := ⟨n - i, by omega⟩
              exact (cntR_above (by omega) k).symm
            · rw [show Nat.min i n = n from Nat.min_eq_right (by omega)])
        have hge1 : (n : Int) < b → ¬ (i : Int) < (n : Int) := fun h => by have := HZ.out; omega
        have hge2 : b ≤ (n : Int) → ¬ (i : Int) < b := fun h => by have := HZ.out; omega
        clear hm
        first
          | (have g := hge1 hb0
             clear hge1 hge2
             go_wp2_with fail
             go_ret
             exact ⟨by rw [← hE.out]; rfl, Below.refl _ _⟩)
          | (have g := hge2 (by omega)
             clear hge1 hge2
             go_wp2_with fail
             go_ret
             exact ⟨by rw [← hE.out]; rfl, Below.refl _ _⟩)
end Go.Proofs.Ytpdleigcdmgfmaa
