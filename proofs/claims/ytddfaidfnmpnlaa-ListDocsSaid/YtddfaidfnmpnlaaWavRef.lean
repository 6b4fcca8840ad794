/- The document's functions of layer 13: Part, Sorted, Width. -/
import Derived.Test.YtddfaidfnmpnlaaWavMath
import Derived.Test.YtddfaidfnmpnlaaSufTurn
import Derived.Test.YtddfaidfnmpnlaaListR
import Derived.Test.YtddfaidfnmpnlaaIntPut
import Derived.Test.YtddfaidfnmpnlaaSufI
import Derived.Deep.CutBlock
import Derived.Deep.CutRange
namespace Go.Proofs.Ytddfaidfnmpnlaa
open Go.RowKit

/-- a list as a row. -/
theorem icells_litI {V : Nat → Int} {l : List Int} (h : ∀ k, k < l.length → l[k]? = some (V k)) : icells V l.length = icells (litI l) l.length := icells_congr fun k hk => by
  unfold litI
  rw [List.getD_eq_getElem?_getD, h k hk]
  rfl
theorem litI_at {l : List Int} {k : Nat} {x : Int} (h : l[k]? = some x) : litI l k = x := by
  unfold litI
  rw [List.getD_eq_getElem?_getD, h]
  rfl
theorem litI_some {l : List Int} {k : Nat} (h : k < l.length) : l[k]? = some (litI l k) := by
  rw [litI_at (List.getElem?_eq_getElem h)]
  exact List.getElem?_eq_getElem h
theorem icells_litI_snoc (l : List Int) (x : Int) : icells (litI (l ++ [x])) (l.length + 1) = icells (litI l) l.length ++ [.int .i64 x] := by
  rw [icells_snoc, icells_congr (U := litI (l ++ [x])) (U' := litI l) (fun k hk => litI_at (by rw [List.getElem?_append_left hk]; exact litI_some hk)), litI_at (x := x) (by rw [List.getElem?_append_right (Nat.le_refl _), Nat.sub_self]; rfl)]

theorem insL_row {x : Int} {S : List Int} {p k : Nat} (h1 : ∀ j y, j < p → S[j]? = some y → y ≤ x) (hp : p ≤ S.length) (h2 : ∀ y, S[p]? = some y → x < y) (hk : k < S.length + 1) : litI (insL x S) k = if k = p then x else if p < k then litI S (k - 1) else litI S k := by
  rw [insL_at h1 hp h2]
  have hlt : (S.take p).length = p := by rw [List.length_take]; omega
  by_cases e : k = p
  · rw [if_pos e]
    exact litI_at (by rw [List.getElem?_append_right (by omega), hlt, e, Nat.sub_self]; rfl)
  · rw [if_neg e]
    by_cases g : p < k
    · rw [if_pos g]
      refine litI_at ?_
      rw [List.getElem?_append_right (by omega), hlt, show k - p = (k - 1 - p) + 1 by omega, List.getElem?_cons_succ, List.getElem?_drop, show p + (k - 1 - p) = k - 1 by omega]
      exact litI_some (by omega)
    · rw [if_neg g]
      refine litI_at ?_
      rw [List.getElem?_append_left (by omega), List.getElem?_take, if_pos (by omega)]
      exact litI_some (by omega)
end Go.Proofs.Ytddfaidfnmpnlaa
