/- Sections as they lie: a slice of slices of bytes; the document's Size and Same of them. -/
import Derived.Test.YtbepoohphmicdaaDoorImgMath
import Derived.Test.YtbepoohphmicdaaDoorCrcCut
import Derived.Deep.QuietTactic
import Derived.BigQuiet
namespace Go.Proofs.YtbepoohphmicdaaDoor
open Go.RowKit

/-- a part of memory as a section. -/
def Part.sec (p : Part) : Sec := ⟨p.n, p.V⟩
/-- slices of bytes, side by side. -/
def Secs (w : World) (B : Nat) (P : Option Addr) (L : List Part) : Prop :=
  ∀ (j : Nat) (p : Part), L[j]? = some p → ∃ ad : Addr, P = some ad ∧ ad.block < B ∧ w.cell? (ad.add j) = some (.slice p.A p.n p.c) ∧ p.n ≤ p.c ∧ p.c ≤ maxLen ∧ (p.A = none → p.n = 0 ∧ p.c = 0) ∧ Bys w B p.A p.n p.V
theorem Secs.below {w w' : World} {B : Nat} {P : Option Addr} {L : List Part} (h : Secs w B P L) (hb : Below B w w') : Secs w' B P L := fun j p hj => by
  obtain ⟨ad, h1, h2, h3, h4, h5, h6, h7⟩ := h j p hj
  exact ⟨ad, h1, h2, (hb.cell (by rw [add_block]; exact h2)).trans h3, h4, h5, h6, h7.below hb⟩
theorem Secs.mono_ {w : World} {B B' : Nat} {P : Option Addr} {L : List Part} (h : Secs w B P L) (hB : B ≤ B') : Secs w B' P L := fun j p hj => by
  obtain ⟨ad, h1, h2, h3, h4, h5, h6, h7⟩ := h j p hj
  exact ⟨ad, h1, by omega, h3, h4, h5, h6, h7.mono_ hB⟩

/-- the document's size of sections, from a number on. -/
def sizeFrom (n : Nat) : List Part → Nat
  | [] => n
  | p :: L => if 2000000 < n ∨ 2000000 < p.n then 2000001 else sizeFrom (n + (p.n + 1)) L
theorem sizeFrom_step (n : Nat) (L : List Part) (i : Nat) (p : Part) (h : L[i]? = some p) (h1 : ¬ 2000000 < n) (h2 : ¬ 2000000 < p.n) : sizeFrom n (L.drop i) = sizeFrom (n + (p.n + 1)) (L.drop (i + 1)) := by
  rw [List.drop_eq_getElem?_toList_append, h]
  show (if 2000000 < n ∨ 2000000 < p.n then 2000001 else sizeFrom (n + (p.n + 1)) (L.drop (i + 1))) = _
  rw [if_neg (by omega)]
theorem sizeFrom_over (n : Nat) (L : List Part) (i : Nat) (p : Part) (h : L[i]? = some p) (h1 : 2000000 < n ∨ 2000000 < p.n) : sizeFrom n (L.drop i) = 2000001 := by
  rw [List.drop_eq_getElem?_toList_append, h]
  show sizeFrom n (p :: L.drop (i + 1)) = _
  unfold sizeFrom
  rw [if_pos h1]
theorem sizeFrom_is : ∀ (L : List Part) (n : Nat), sizeFrom n L ≤ 2000000 → sizeFrom n L = n + (L.map fun p => p.n + 1).sum
  | [], n, _ => by simp [sizeFrom]
  | p :: L, n, h => by
    unfold sizeFrom at h ⊢
    split at h
    · omega
    · rename_i h1
      rw [if_neg h1, sizeFrom_is L _ h]
      simp
      omega
theorem sum_mem : ∀ (L : List Part) (p : Part), p ∈ L → p.n + 1 ≤ (L.map fun p => p.n + 1).sum
  | [], p, h => by cases h
  | q :: L, p, h => by
    rcases List.mem_cons.1 h with rfl | h
    · simp
    · have := sum_mem L p h
      simp
      omega
theorem sum_length : ∀ L : List Part, L.length ≤ (L.map fun p => p.n + 1).sum
  | [] => by simp
  | q :: L => by
    have := sum_length L
    simp
    omega

set_option maxRecDepth 100000 in
set_option maxHeartbeats 800000 in
theorem refSize_any (P : Option Addr) (c : Nat) (L : List Part) (B : Nat) (w : World) (hL : L.length ≤ maxLen) (ho : Secs w B P L) :
    Calls Tryd.prog 9 #[.slice P L.length c] w fun e w' => e = .returned (.int .i64 ((sizeFrom 0 L : Nat) : Int)) ∧ w = w' := by
  have HO := Lib.hid ho
  clear ho
  obtain ⟨k, hk⟩ : ∃ k, L.length = k := ⟨_, rfl⟩
  rw [hk] at hL ⊢
  have HK := Lib.hid hk
  have hkl : k ≤ 9223372036854775807 := by unfold maxLen at hL; omega
  clear hk hL
  go_enter Tryd.func9, Tryd.ntmps9
  go_wp2_with fail
  go_loop [3, 5, 8] (fun s _ v => ∃ i n : Nat, i ≤ k ∧ v = .int .i64 (i : Int) ∧ s = .int .i64 (n : Int) ∧ n ≤ 4000002 ∧ sizeFrom 0 L = sizeFrom n (L.drop i)) (fun _ _ v => k - (intOf v).toNat)
  case atStart => exact ⟨0, 0, Nat.zero_le _, rfl, rfl, by decide, by simp⟩
  case round =>
    obtain ⟨i, n, hi, rfl, rfl, hn, hsz⟩ := hrel
    have HS := Lib.hid hsz
    clear hsz
    by_cases hlt : i < k
    · obtain ⟨p, hp⟩ : ∃ p, L[i]? = some p := ⟨_, List.getElem?_eq_getElem (by rw [HK.out]; exact hlt)⟩
      obtain ⟨ad, rfl, hb, hc, hnc, hcm, _, _⟩ := HO.out i p hp
      have HP := Lib.hid hp
      have hpm : p.c ≤ 9223372036854775807 := by unfold maxLen at hcm; omega
      have H1 := Lib.hid (sizeFrom_over n L i p hp)
      have H2 := Lib.hid (sizeFrom_step n L i p hp)
      clear hp hcm
      obtain ⟨A, m, cc, V⟩ := p
      have hlti : (i : Int) < (k : Int) := by omega
      by_cases h1 : 2000000 < n
      · have d1 : decide ((2000000 : Int) < (n : Int)) = true := by simp; omega
        have e := H1.out (.inl h1)
        go_wp2_with fail
        go_ret
        exact ⟨by rw [HS.out, e]; rfl, rfl⟩
      · have d1 : decide ((2000000 : Int) < (n : Int)) = false := by simp; omega
        by_cases h2 : 2000000 < m
        · have d2 : decide ((2000000 : Int) < (m : Int)) = true := by simp; omega
          have e := H1.out (.inr h2)
          go_wp2_with fail
          go_ret
          exact ⟨by rw [HS.out, e]; rfl, rfl⟩
        · have d2 : decide ((2000000 : Int) < (m : Int)) = false := by simp; omega
          have w1 : IntKind.i64.wrap ((m : Int) + 1) = ((m + 1 : Nat) : Int) := by rw [IntWalk.i64_in _ (by omega)]; omega
          have w2 : IntKind.i64.wrap ((n : Int) + ((m + 1 : Nat) : Int)) = ((n + (m + 1) : Nat) : Int) := by rw [IntWalk.i64_in _ (by omega)]; omega
          have e := Lib.hid (H2.out h1 h2)
          go_wp2_with fail
          go_round
          case rel => exact ⟨i + 1, n + (m + 1), by omega, by go_num, rfl, by omega, by rw [HS.out, e.out]⟩
          case measure => simp [intOf]; omega
    · obtain rfl : i = k := by omega
      have e : sizeFrom 0 L = n := by rw [HS.out, List.drop_of_length_le (by rw [HK.out]; exact Nat.le_refl _)]; rfl
      have HE := Lib.hid e
      clear e
      go_wp2_with fail
      go_ret
      exact ⟨by rw [HE.out]; rfl, rfl⟩

/-- two lists of sections alike. -/
def SameP (L L' : List Part) : Prop := L.length = L'.length ∧ ∀ (i : Nat) (x y : Part), L[i]? = some x → L'[i]? = some y → bstr x.V x.n = bstr y.V y.n

set_option maxRecDepth 100000 in
set_option maxHeartbeats 800000 in
theorem refSame_any (P P' : Option Addr) (c c' : Nat) (L L' : List Part) (w : World) (hL : L.length ≤ maxLen) (ho : Secs w w.heap.size P L) (ho' : Secs w w.heap.size P' L') :
    Calls Tryd.prog 13 #[.slice P L.length c, .slice P' L'.length c'] w fun e w' => ∃ b, e = .returned (.bool b) ∧ (b = true ↔ SameP L L') ∧ Below w.heap.size w w' := by
  have HO := Lib.hid ho
  have HO' := Lib.hid ho'
  clear ho ho'
  obtain ⟨k, hk⟩ : ∃ k, L.length = k := ⟨_, rfl⟩
  obtain ⟨k', hk'⟩ : ∃ k, L'.length = k := ⟨_, rfl⟩
  rw [hk] at hL ⊢
  rw [hk']
  have HK := Lib.hid hk
  have HK' := Lib.hid hk'
  have hkl : k ≤ 9223372036854775807 := by unfold maxLen at hL; omega
  clear hk hk' hL
  by_cases hkk : k = k'
  · subst hkk
    go_enter Tryd.func13, Tryd.ntmps13
    go_wp2_with fail
    go_loopw [5, 13] (fun _ v wr => ∃ i : Nat, i ≤ k ∧ v = .int .i64 (i : Int) ∧ Hid (∀ (j : Nat) (x y : Part), j < i → L[j]? = some x → L'[j]? = some y → bstr x.V x.n = bstr y.V y.n) ∧ Below w.heap.size w wr) (fun _ v _ => k - (intOf v).toNat)
    case atStart => exact ⟨0, Nat.zero_le _, rfl, Lib.hid (fun j x y hj => absurd hj (Nat.not_lt_zero j)), Below.refl _ _⟩
    case round =>
      obtain ⟨i, hi, rfl, hall, hb⟩ := hrel
      by_cases hlt : i < k
      · obtain ⟨p, hp⟩ : ∃ p, L[i]? = some p := ⟨_, List.getElem?_eq_getElem (by rw [HK.out]; exact hlt)⟩
        obtain ⟨p', hp'⟩ : ∃ p, L'[i]? = some p := ⟨_, List.getElem?_eq_getElem (by rw [HK'.out]; exact hlt)⟩
        have hcells : ∀ q, ∃ ad ad' : Addr, P = some ad ∧ P' = some ad' ∧ (wr.drewN q).cell? (ad.add i) = some (.slice p.A p.n p.c) ∧ (wr.drewN q).cell? (ad'.add i) = some (.slice p'.A p'.n p'.c) ∧ (convert 25 9 (.slice p.A p.n p.c)).run Tryd.prog (wr.drewN q) = .ok (.string (bstr p.V p.n)) (wr.drewN q) ∧ (convert 25 9 (.slice p'.A p'.n p'.c)).run Tryd.prog (wr.drewN q) = .ok (.string (bstr p'.V p'.n)) (wr.drewN q) := fun q => by
          have hbq := below_drewN' hb q
          obtain ⟨ad, h1, _, h3, _, _, _, h7⟩ := (HO.out.below hbq) i p hp
          obtain ⟨ad', h1', _, h3', _, _, _, h7'⟩ := (HO'.out.below hbq) i p' hp'
          exact ⟨ad, ad', h1, h1', h3, h3', h7.conv _, h7'.conv _⟩
        obtain ⟨ad, ad', rfl, rfl, _⟩ := hcells 0
        have f1 : ∀ q, (wr.drewN q).cell? (ad.add i) = some (.slice p.A p.n p.c) := fun q => by obtain ⟨_, _, e1, _, h, _⟩ := hcells q; cases e1; exact h
        have f2 : ∀ q, (wr.drewN q).cell? (ad'.add i) = some (.slice p'.A p'.n p'.c) := fun q => by obtain ⟨_, _, _, e1, _, h, _⟩ := hcells q; cases e1; exact h
        have f3 : ∀ q, (convert 25 9 (.slice p.A p.n p.c)).run Tryd.prog (wr.drewN q) = .ok (.string (bstr p.V p.n)) (wr.drewN q) := fun q => by obtain ⟨_, _, _, _, _, _, h, _⟩ := hcells q; exact h
        have f4 : ∀ q, (convert 25 9 (.slice p'.A p'.n p'.c)).run Tryd.prog (wr.drewN q) = .ok (.string (bstr p'.V p'.n)) (wr.drewN q) := fun q => by obtain ⟨_, _, _, _, _, _, _, h⟩ := hcells q; exact h
        have HX := Lib.hid hp
        have HX' := Lib.hid hp'
        clear hcells hp hp'
        obtain ⟨A, m, cc, V⟩ := p
        obtain ⟨A', m', cc', V'⟩ := p'
        have hlti : (i : Int) < (k : Int) := by omega
        by_cases hs : bstr V m = bstr V' m'
        · have hst := str_same hs
          have HS := Lib.hid hs
          clear hs
          go_wp2_with fail
          go_quiet (fail)
          go_wp2_with fail
          go_roundw
          case rel =>
            refine ⟨i + 1, by omega, by go_num, Lib.hid (fun j x y hj h1 h2 => ?_), below_drewN' hb _⟩
            by_cases e : j < i
            · exact hall.out j x y e h1 h2
            · obtain rfl : j = i := by omega
              rw [HX.out] at h1
              rw [HX'.out] at h2
              cases h1
              cases h2
              exact HS.out
          case measure => simp [intOf]; omega
        · have hst := str_unlike hs
          have HS := Lib.hid hs
          clear hs
          go_wp2_with fail
          go_quiet (fail)
          go_wp2_with fail
          go_ret
          exact ⟨false, rfl, ⟨fun h => (by cases h), fun h => absurd (h.2 i _ _ HX.out HX'.out) HS.out⟩, below_drewN' hb _⟩
      · obtain rfl : i = k := by omega
        go_wp2_with fail
        go_ret
        exact ⟨true, rfl, ⟨fun _ => ⟨by rw [HK.out, HK'.out], fun j x y h1 h2 => hall.out j x y (by rw [← HK.out]; exact (List.getElem?_eq_some_iff.1 h1).1) h1 h2⟩, fun _ => rfl⟩, hb⟩
  · have hne : ((k : Int) == (k' : Int)) = false := by rw [beq_eq_false_iff_ne]; omega
    go_enter Tryd.func13, Tryd.ntmps13
    go_wp2_with fail
    go_ret
    exact ⟨false, rfl, ⟨fun h => (by cases h), fun h => absurd (by rw [← HK.out, ← HK'.out]; exact h.1) hkk⟩, Below.refl _ _⟩
end Go.Proofs.YtbepoohphmicdaaDoor
