/- The developers' package docs: moved, Back. -/
import Derived.Test.YtddfaidfnmpnlaaIMap
import Derived.Test.YtddfaidfnmpnlaaDocMath
import Derived.Test.YtddfaidfnmpnlaaSufI
import Derived.Test.YtddfaidfnmpnlaaIntPut
import Derived.Test.YtddfaidfnmpnlaaListR
import Derived.Test.YtddfaidfnmpnlaaSaMath
import Derived.Test.YtddfaidfnmpnlaaMake
namespace Go.Proofs.Ytddfaidfnmpnlaa
open Go.RowKit

set_option maxRecDepth 100000 in
/-- where d stood; it stands at i now. -/
theorem moved_any (b k : Nat) (g : Int → Option Int) (d i x : Int) (w : World) (hm : IMap w b k g) (hk : k < maxLen) (hd : (Lit.int .i64 d).wf = true) (hi : (Lit.int .i64 i).wf = true) :
    Calls Try.prog 16 #[.map (some b), .int .i64 d, .int .i64 i, .int .i64 x] w fun e w' => e = .returned (.int .i64 ((g d).getD x)) ∧ IMap w' b (k + 1) (putO g d i) ∧ w.grownBy w' (some b) := by
  have HM := Lib.hid hm
  clear hm
  rcases hg : g d with _ | y
  · have HG := Lib.hid hg
    clear hg
    go_enter Try.func16, Try.ntmps16
    go_wp2_with (first
      | (at_lookup; refine wpList_imap_miss _ rfl _ _ _ rfl Try.underlying47 b k g rfl HM.out d rfl hd HG.out ?_; intro c)
      | (at_mapUpdate; refine wpList_imap_put _ rfl _ _ _ _ rfl Try.underlying47 b k g rfl HM.out hk d i rfl rfl hd hi ?_; intro w1 h1 h2)
      | go_in)
    go_ret
    exact ⟨rfl, h1, h2⟩
  · have HG := Lib.hid hg
    clear hg
    go_enter Try.func16, Try.ntmps16
    go_wp2_with (first
      | (at_lookup; refine wpList_imap_hit _ rfl _ _ _ rfl Try.underlying47 b k g rfl HM.out d y rfl hd HG.out ?_)
      | (at_mapUpdate; refine wpList_imap_put _ rfl _ _ _ _ rfl Try.underlying47 b k g rfl HM.out hk d i rfl rfl hd hi ?_; intro w1 h1 h2)
      | go_in)
    go_ret
    exact ⟨rfl, h1, h2⟩

theorem itsR_lies {w : World} {g n : Nat} {U V : Nat → Int} (h : Lies w g 3 (icells U n)) (hn : n ≤ 4194304) (hU : ∀ j, j < n → U j = V j) (hV : ∀ j, j < n → -9223372036854775808 ≤ V j ∧ V j ≤ 9223372036854775807) : ItsR w (some ⟨g, 0, none⟩) n n V :=
  ⟨(fun e => by cases e), Nat.le_refl _, by unfold maxLen; omega, fun k hk => ⟨_, rfl, h.lt, by
    rw [Addr.add_mid, Nat.zero_add, h.cell, ← hU k hk]
    exact icells_at _ _ _ hk, hV k hk⟩⟩

/-- behind i places: at each number where it stood last. -/
def StoodB (V : Nat → Int) (i : Nat) (g : Int → Option Int) : Prop := ∀ x, (g x).getD (-1) = lookB V x i
theorem StoodB.step {V : Nat → Int} {i : Nat} {g : Int → Option Int} (h : StoodB V i g) : StoodB V (i + 1) (putO g (V i) (i : Int)) := fun x => by
  by_cases e : x = V i
  · rw [e, putO_at, lookB_hit rfl]
    rfl
  · rw [putO_off e, lookB_miss (fun e' => e e'.symm)]
    exact h x

set_option maxRecDepth 100000 in
set_option maxHeartbeats 1600000 in
theorem docBack_lies (A : Option Addr) (n c : Nat) (V : Nat → Int) (w : World) (hn : n ≤ 4194303) (ho : ItsR w A n c V) :
    Calls Try.prog 11 #[.slice A n c] w fun e w' => e = .returned (.slice (some ⟨w.heap.size, 0, none⟩) n n) ∧ Lies w' w.heap.size 3 (icells (lastD V) n) ∧ Below w.heap.size w w' := by
  have HO := Lib.hid ho
  clear ho
  have hMk := make_ints0 w n (by omega)
  have l2 := lies_new w 3 (icells (fun _ => 0) n)
  have hb2 : Below w.heap.size w (w.alloc (.cells (icells (fun _ => 0) n).toArray 3)) := (Below.refl _ _).alloc (Nat.le_refl _) _
  have hs2 : (w.alloc (.cells (icells (fun _ => 0) n).toArray 3)).heap.size = w.heap.size + 1 := size_alloc _ _
  obtain ⟨w2, hw2⟩ : ∃ w2, w.alloc (.cells (icells (fun _ => 0) n).toArray 3) = w2 := ⟨_, rfl⟩
  rw [hw2] at hMk l2 hb2 hs2
  have hmm := run_makeMap (P := Try.prog) 47 w2
  have m3 := imap_made w2
  have hb3 : Below w.heap.size w (w2.alloc (.map #[] 0)) := hb2.alloc hb2.size _
  have l3 := l2.alloc (.map #[] 0)
  obtain ⟨w3, hw3⟩ : ∃ w3, w2.alloc (.map #[] 0) = w3 := ⟨_, rfl⟩
  rw [hw3] at m3 hb3 l3 hmm
  rw [hs2] at m3 hmm
  obtain ⟨G, hG⟩ : ∃ G, w.heap.size = G := ⟨_, rfl⟩
  rw [hG] at hMk l3 m3 hb3 hmm ⊢
  have HO' : Hid (Its w G A n V) := Lib.hid (by rw [← hG]; exact HO.out.2.2.2)
  have hGle : G ≤ w.heap.size := Nat.le_of_eq hG.symm
  clear l2 hb2 HO hw2 hw3 hs2 hG
  go_enter Try.func11, Try.ntmps11
  go_wp2_with fail
  go_loopw [13] (fun s wr => ∃ i : Nat, i ≤ n ∧ s = .int .i64 (i : Int) ∧ Hid (∃ U, Lies wr G 3 (icells U n) ∧ ∀ j, j < i → U j = lastD V j) ∧ Hid (∃ g, IMap wr (G + 1) i g ∧ StoodB V i g) ∧ Below G w wr) (fun s _ => n - (intOf s).toNat)
  case atStart => exact ⟨0, Nat.zero_le _, rfl, Lib.hid ⟨_, l3, fun j hj => absurd hj (Nat.not_lt_zero j)⟩, Lib.hid ⟨_, m3, fun _ => rfl⟩, hb3⟩
  case round =>
    clear l3 m3 hb3 hMk hmm
    obtain ⟨i, hi, rfl, hU, hM, hb⟩ := hrel
    by_cases hlt : i < n
    · have hlti : (i : Int) < (n : Int) := by omega
      obtain ⟨ad, rfl, _, hc, hv1, hv2⟩ := HO'.out.below hb i hlt
      obtain ⟨g, hg, hs⟩ := hM.out
      have HMv := Lib.hid (moved_any (G + 1) i g (V i) (i : Int) (-1) wr hg (by unfold maxLen; omega) (HO'.out.wf hlt) (WalkArith.wf_i64 (by omega)))
      have HE : Hid ((g (V i)).getD (-1) = lastD V i) := Lib.hid (hs (V i))
      have HS2 := Lib.hid hs.step
      obtain ⟨U, hL, hd⟩ := hU.out
      rw [HE.out] at HMv
      obtain ⟨v, hv⟩ : ∃ v, V i = v := ⟨_, rfl⟩
      rw [hv] at hc hv1 hv2 HMv HS2
      obtain ⟨z, hz⟩ : ∃ z, lastD V i = z := ⟨_, rfl⟩
      rw [hz] at HMv
      have HZ := Lib.hid hz
      clear hU hM hg hs hv HE hz
      go_wp2_with fail
      refine HMv.out.mono ?_
      rintro e w3 ⟨rfl, m3, g3⟩
      have l3 : Lies w3 G 3 (icells U n) := hL.grown g3 (fun e => by injection e with e; omega)
      have hb3 : Below G w w3 := hb.grown g3 (Nat.le_trans hGle hb.size) (fun j hj => by cases hj; omega)
      have hcell : w3.cell? ⟨G, i, none⟩ = some (.int .i64 (U i)) := by
        rw [l3.cell]
        exact icells_at _ _ _ hlt
      have hfree := l3.free i
      have HU2 : Hid (∃ U', Lies (w3.setCell ⟨G, i, none⟩ (.int .i64 z)) G 3 (icells U' n) ∧ ∀ j, j < i + 1 → U' j = lastD V j) := Lib.hid ⟨putI U i z, by
        have := l3.put i (.int .i64 z)
        rw [icells_put] at this
        exact this, fun j hj => by
          by_cases e : j = i
          · rw [e, putI_at, HZ.out]
          · rw [putI_off _ e]; exact hd j (by omega)⟩
      have HM2 : Hid (∃ g, IMap (w3.setCell ⟨G, i, none⟩ (.int .i64 z)) (G + 1) (i + 1) g ∧ StoodB V (i + 1) g) := Lib.hid ⟨_, m3.same (Below.heap_setCell _ _ _ _ (by show G + 1 ≠ G; omega)), HS2.out⟩
      have hB4 : Below G w (w3.setCell ⟨G, i, none⟩ (.int .i64 z)) := hb3.setCell (p := ⟨G, i, none⟩) (Nat.le_refl _) _
      clear HMv HS2 HZ m3 g3 l3 hb3 hL hd hb
      go_wp2_with fail
      go_roundw
      case rel => exact ⟨i + 1, by omega, by go_num, HU2, HM2, hB4⟩
      case measure => simp [intOf]; omega
    · obtain rfl : i = n := by omega
      have hge : ¬ (i : Int) < (i : Int) := by omega
      go_wp2_with fail
      go_ret
      obtain ⟨U, hL, hd⟩ := hU.out
      exact ⟨rfl, by rw [← icells_congr hd]; exact hL, hb⟩
theorem docBack_any (A : Option Addr) (n c : Nat) (V : Nat → Int) (w : World) (hn : n ≤ 4194303) (ho : ItsR w A n c V) :
    Calls Try.prog 11 #[.slice A n c] w fun e w' => (∃ (A2 : Option Addr) (c2 : Nat), e = .returned (.slice A2 n c2) ∧ ItsR w' A2 n c2 (lastD V)) ∧ Below w.heap.size w w' :=
  (docBack_lies A n c V w hn ho).mono fun e w' ⟨h1, h2, h3⟩ => ⟨⟨_, n, h1, itsR_lies h2 (by omega) (fun _ _ => rfl) (fun j hj => by
    have := lastD_room V j
    omega)⟩, h3⟩
end Go.Proofs.Ytddfaidfnmpnlaa
