/- A region by facts (Region): steps for operations that stand behind a guard. No program is named here. -/
import Derived.Test.YtkhkjbhhkclnlaaRegion
namespace Go.Proofs.Ytkhkjbhhkclnlaa
open Go.RowKit

section
variable {P : Program} {ops : Array Oper} {Q : Exit → Act → World → Prop}
theorem yielded_at {g d : Nat} {t : Array Value} {u : Value} (hd : dstOf ops g = some d) (hv : t.getD d undef = u) : ∀ b, (yielded ops t g = some b ↔ u = .bool b) := by
  intro b
  unfold dstOf at hd
  unfold yielded
  rw [hd]
  subst hv
  show (match t[d]? with | some (.bool b) => some b | _ => none) = some b ↔ _
  rw [Array.getD_eq_getD_getElem?]
  rcases h : t[d]? with _ | u
  · simp [undef]
  · cases u <;> simp
/-- an operation behind a guard that lets it run. -/
theorem wpOp_wanted {i g d : Nat} {b : Bool} {o : Oper} {K : Act → World → Prop} {a : Act} {w : World} (ho : ops[i]? = some o) (hg : o.guard = some (g, b)) (hd : dstOf ops g = some d) (hv : a.tmps.getD d undef = .bool b)
    (h : ∀ K' : Act → World → Prop, (∀ a w, K a w → K' a w) → Oper.wp P o a w K' Q) : wpOp P ops Q i K a w := by
  refine wpOp_step ho fun K' hK => ?_
  rw [if_pos (by
    unfold Region.wanted
    rw [hg]
    show (yielded ops a.tmps g == some b) = true
    rw [(yielded_at hd hv b).2 rfl]
    simp)]
  exact h K' hK
/-- an operation behind a guard that lets it out. -/
theorem wpOp_passed {i g d : Nat} {b : Bool} {o : Oper} {u : Value} {K : Act → World → Prop} {a : Act} {w : World} (ho : ops[i]? = some o) (hg : o.guard = some (g, b)) (hd : dstOf ops g = some d) (hv : a.tmps.getD d undef = u) (hu : u ≠ .bool b)
    (h : K (a.put o.dst undef) w) : wpOp P ops Q i K a w := by
  refine wpOp_step ho fun K' hK => ?_
  rw [if_neg (by
    unfold Region.wanted
    rw [hg]
    show ¬ (yielded ops a.tmps g == some b) = true
    intro e
    rw [beq_iff_eq] at e
    exact hu ((yielded_at hd hv b).1 e))]
  exact hK _ _ h
end
end Go.Proofs.Ytkhkjbhhkclnlaa
