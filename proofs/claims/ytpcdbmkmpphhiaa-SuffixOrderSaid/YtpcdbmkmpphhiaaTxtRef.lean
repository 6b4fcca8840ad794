/- The document's functions of layer 8: which documents may be a collection, its symbols, of which document each is. -/
import Derived.Test.YtpcdbmkmpphhiaaTxtMath
import Derived.Test.YtpcdbmkmpphhiaaIntRow
import Derived.Deep.QuietTactic
import Derived.BigQuiet
namespace Go.Proofs.Ytpcdbmkmpphhiaa
open Go.RowKit

theorem docs_len {L : List Part} {i : Nat} {p : Part} (h : L[i]? = some p) : bytesT ((docsP L).take (i + 1)) = bytesT ((docsP L).take i) + p.n := bytesT_take (docsP_at h)
set_option maxRecDepth 100000 in
set_option maxHeartbeats 800000 in
/-- two lists of ints alike. -/
theorem refSame8_any (A A' : Option Addr) (n n' c c' : Nat) (V V' : Nat → Int) (B B' : Nat) (w : World) (hn : n ≤ maxLen) (hB : B ≤ w.heap.size) (hB' : B' ≤ w.heap.size) (ho : Its w B A n V) (ho' : Its w B' A' n' V') :
    Calls Try.prog 12 #[.slice A n c, .slice A' n' c'] w fun e w' => ∃ b, e = .returned (.bool b) ∧ (b = true ↔ (n = n' ∧ ∀ i, i < n → V i = V' i)) ∧ Below w.heap.size w w' := by
  have HO := Lib.hid (ho.mono_ hB)
  have HO' := Lib.hid (ho'.mono_ hB')
  have hkl : n ≤ 9223372036854775807 := by unfold maxLen at hn; omega
  clear ho ho' hn
  by_cases hnn : n = n'
  · subst hnn
    go_enter Try.func12, Try.ntmps12
    go_wp2_with fail
    go_loopw [13] (fun v wr => ∃ i : Nat, i ≤ n ∧ v = .int .i64 (i : Int) ∧ Hid (∀ j, j < i → V j = V' j) ∧ Below w.heap.size w wr) (fun v _ => n - (intOf v).toNat)
    case atStart => exact ⟨0, Nat.zero_le _, rfl, Lib.hid (fun j hj => absurd hj (Nat.not_lt_zero j)), Below.refl _ _⟩
    case round =>
      obtain ⟨i, hi, rfl, hall, hb⟩ := hrel
      by_cases hlt : i < n
      · obtain ⟨ad, hA, h1, h2, _, _⟩ := HO.out i hlt
        obtain ⟨ad', hA', h1', h2', _, _⟩ := HO'.out i hlt
        subst hA hA'
        have q1 : ∀ q, (wr.drewN q).cell? (ad.add i) = some (.int .i64 (V i)) := fun q => ((below_drewN' hb q).cell (by rw [add_block]; exact h1)).trans h2
        have q2 : ∀ q, (wr.drewN q).cell? (ad'.add i) = some (.int .i64 (V' i)) := fun q => ((below_drewN' hb q).cell (by rw [add_block]; exact h1')).trans h2'
        have hlti : (i : Int) < (n : Int) := by omega
        clear h2 h2'
        by_cases he : V i = V' i
        · have HE : Hid (∀ j, j < i + 1 → V j = V' j) := Lib.hid fun j hj => by
            by_cases e : j < i
            · exact hall.out j e
            · obtain rfl : j = i := by omega
              exact he
          rw [← he] at q2
          have hee : (V i == V i) = true := by simp
          clear he
          go_wp2_with fail
          go_quiet (fail)
          go_wp2_with fail
          go_roundw
          case rel => exact ⟨i + 1, by omega, by go_num, HE, below_drewN' hb _⟩
          case measure => simp [intOf]; omega
        · have hne : (V i == V' i) = false := by rw [beq_eq_false_iff_ne]; exact he
          have HE := Lib.hid he
          clear he
          go_wp2_with fail
          go_quiet (fail)
          go_wp2_with fail
          go_ret
          exact ⟨false, rfl, ⟨fun h => (by cases h), fun h => absurd (h.2 i hlt) HE.out⟩, below_drewN' hb _⟩
      · obtain rfl : i = n := by omega
        go_wp2_with fail
        go_ret
        exact ⟨true, rfl, ⟨fun _ => ⟨by trivial, hall.out⟩, fun _ => rfl⟩, hb⟩
  · have hd : ((n : Int) == (n' : Int)) = false := by rw [beq_eq_false_iff_ne]; omega
    go_enter Try.func12, Try.ntmps12
    go_wp2_with fail
    go_ret
    exact ⟨false, rfl, ⟨fun h => (by cases h), fun h => absurd h.1 hnn⟩, Below.refl _ _⟩

theorem locT_drop {S : List Sec} {i q : Nat} {x : Sec} (h : S[i]? = some x) : locT (S.drop i) q = if q ≤ x.n then some (0, q) else (locT (S.drop (i + 1)) (q - (x.n + 1))).map fun (d, o) => (d + 1, o) := by
  rw [List.drop_eq_getElem?_toList_append, h]
  rfl
/-- what Doc answers from document i on. -/
def docJ (S : List Sec) (i q : Nat) : Int × Int := match locT (S.drop i) q with
  | some (d, o) => (((d + i : Nat) : Int), (o : Int))
  | none => (-1, -1)
theorem docJ_here {S : List Sec} {i q : Nat} {x : Sec} (h : S[i]? = some x) (hq : q ≤ x.n) : docJ S i q = ((i : Int), (q : Int)) := by
  unfold docJ
  rw [locT_drop h, if_pos hq]
  simp
theorem docJ_on {S : List Sec} {i q : Nat} {x : Sec} (h : S[i]? = some x) (hq : ¬ q ≤ x.n) : docJ S i q = docJ S (i + 1) (q - (x.n + 1)) := by
  unfold docJ
  rw [locT_drop h, if_neg hq]
  rcases locT (S.drop (i + 1)) (q - (x.n + 1)) with _ | ⟨d, o⟩
  · rfl
  · show (((d + 1 + i : Nat) : Int), (o : Int)) = (((d + (i + 1) : Nat) : Int), (o : Int))
    rw [show d + 1 + i = d + (i + 1) by omega]
theorem docJ_end {S : List Sec} {i q : Nat} (h : S.length ≤ i) : docJ S i q = (-1, -1) := by
  unfold docJ
  rw [List.drop_of_length_le h]
  rfl
theorem docI_nat {S : List Sec} (q : Nat) : docI S (q : Int) = docJ S 0 q := by
  unfold docI docJ
  rw [if_neg (by omega), Int.toNat_natCast, List.drop_zero]
  rcases locT S q with _ | ⟨d, o⟩
  · rfl
  · rfl
/-- a collection's symbols, as ints. -/
def symI (S : List Sec) (p : Nat) : Int := ((symT S p : Nat) : Int)
end Go.Proofs.Ytpcdbmkmpphhiaa
