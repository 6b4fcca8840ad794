/- A region by facts (Region): steps for operations that stand behind a guard. No program is named here. -/
import Derived.Test.YtpcdbmkmpphhiaaRegion
namespace Go.Proofs.Ytpcdbmkmpphhiaa
open Go.RowKit

section
variable {P : Program} {ops : Array Oper} {Q : Exit → Act → World → Prop}
theorem yielded_at {g d : Nat} {t : Array Value} {u : Value} (hd : dstOf ops g = some d) (hv : t.getD d undef = u) : ∀ b, (yielded ops t g = some b ↔ u = .bool b) := by
  intro b
  unfold dstOf at hd
  unfold yielded
  rw [hd]
  subst hv
  show (match t[d]? with | some (.bool b) => some b | _ => none) = some b ↔ _
  rw [Array.getD_eq_getD_getElem?]
  rcases h : t[d]? with _ | u
  · simp [undef]
  · cases u <;> simp
/-- an operation behind a guard that lets it run. -/
theorem wpOp_wanted {i g d : Nat} {b : Bool} {o : Oper} {K : Act → World → Prop} {a : Act} {w : World} (ho : ops[i]? = some o) (hg : o.guard = some (g, b)) (hd : dstOf ops g = some d) (hv : a.tmps.getD d undef = .bool b)
    (h : ∀ K' : Act → World → Prop, (∀ a w, K a w → K' a w) → Oper.wp P o a w K' Q) : wpOp P ops Q i K a w := by
  refine wpOp_step ho fun K' hK => ?_
  rw [if_pos (by
    unfold Region.wanted
    rw [hg]
    show (yielded ops a.tmps g == some b) = true
    rw [(yielded_at hd hv b).2 rfl]
    simp)]
  exact h K' hK
/-- an operation behind a guard that lets it out. -/
theorem wpOp_passed {i g d : Nat} {b : Bool} {o : Oper} {u : Value} {K : Act → World → Prop} {a : Act} {w : World} (ho : ops[i]? = some o) (hg : o.guard = some (g, b)) (hd : dstOf ops g = some d) (hv : a.tmps.getD d undef = u) (hu : u ≠ .bool b)
    (h : K (a.put o.dst undef) w) : wpOp P ops Q i K a w := by
  refine wpOp_step ho fun K' hK => ?_
  rw [if_neg (by
    unfold Region.wanted
    rw [hg]
    show ¬ (yielded ops a.tmps g == some b) = true
    intro e
    rw [beq_iff_eq] at e
    exact hu ((yielded_at hd hv b).1 e))]
  exact hK _ _ h
end

/-- all slots that a region writes. -/
def inB (ops : Array Oper) (ds : List Nat) : Bool := (List.range ops.size).all fun i => match dstOf ops i with | some d => ds.contains d | none => true
theorem not_in {ops : Array Oper} {ds : List Nat} (h : inB ops ds = true) {d : Nat} (hd : d ∉ ds) : ∀ i, dstOf ops i ≠ some d := fun i e => by
  unfold inB at h
  rw [List.all_eq_true] at h
  have h1 := h i (List.mem_range.2 (dst_lt e))
  rw [e] at h1
  exact hd (by simpa using h1)
/-- the frame behind a region: as it was, but for those slots. -/
theorem frame_sets {t a : Array Value} (hs : t.size = a.size) (ds : List Nat) (hold : ∀ d, d ∉ ds → t.getD d undef = a.getD d undef) : ∃ f : Nat → Value, (∀ d, t.getD d undef = f d) ∧ t = ds.foldl (fun acc d => acc.setIfInBounds d (f d)) a := by
  refine ⟨fun d => t.getD d undef, fun _ => rfl, ?_⟩
  have size : ∀ (ds : List Nat) (b : Array Value), (ds.foldl (fun acc d => acc.setIfInBounds d (t.getD d undef)) b).size = b.size := by
    intro ds
    induction ds with
    | nil => intro b; rfl
    | cons d ds ih => intro b; rw [List.foldl_cons, ih]; simp
  have get : ∀ (ds : List Nat) (b : Array Value) (k : Nat), k < b.size → (ds.foldl (fun acc d => acc.setIfInBounds d (t.getD d undef)) b).getD k undef = if k ∈ ds then t.getD k undef else b.getD k undef := by
    intro ds
    induction ds with
    | nil => intro b k _; simp
    | cons d ds ih =>
      intro b k hk
      rw [List.foldl_cons, ih _ _ (by simpa using hk)]
      by_cases h1 : k ∈ ds
      · rw [if_pos h1, if_pos (List.mem_cons_of_mem _ h1)]
      · rw [if_neg h1]
        by_cases h2 : k = d
        · subst h2
          rw [if_pos (List.mem_cons_self ..), getD_put _ _ _ _ hk, if_pos rfl]
        · rw [if_neg (by
            rw [List.mem_cons]
            exact fun h => h.elim h2 h1)]
          simp only [Array.getD_eq_getD_getElem?, Array.getElem?_setIfInBounds]
          rw [if_neg (fun e => h2 e.symm)]
  apply Array.ext
  · rw [size, hs]
  · intro k h1 h2
    have h3 := get ds a k (by omega)
    have h4 : (ds.foldl (fun acc d => acc.setIfInBounds d (t.getD d undef)) a).getD k undef = t.getD k undef := by
      rw [h3]
      by_cases h : k ∈ ds
      · rw [if_pos h]
      · rw [if_neg h, hold k h]
    rw [Array.getD_eq_getD_getElem?, Array.getD_eq_getD_getElem?, Array.getElem?_eq_getElem h1, Array.getElem?_eq_getElem h2] at h4
    exact h4.symm

/-- a region writes the slots from lo on, below hi. -/
def rangeB (ops : Array Oper) (lo hi : Nat) : Bool := (List.range ops.size).all fun i => match dstOf ops i with | some d => decide (lo ≤ d) && decide (d < hi) | none => true
theorem not_range {ops : Array Oper} {lo hi : Nat} (h : rangeB ops lo hi = true) {d : Nat} (hd : ¬ (lo ≤ d ∧ d < hi)) : ∀ i, dstOf ops i ≠ some d := fun i e => by
  unfold rangeB at h
  rw [List.all_eq_true] at h
  have h1 := h i (List.mem_range.2 (dst_lt e))
  rw [e] at h1
  simp at h1
  exact hd h1
/-- the frame behind a region: as it was, but for those slots. -/
theorem frame_part {t a : Array Value} (hs : t.size = a.size) (lo n hi : Nat) (hn : lo + n = hi) (h2 : hi ≤ a.size) (hold : ∀ d, ¬ (lo ≤ d ∧ d < hi) → t.getD d undef = a.getD d undef) :
    ∃ f : Nat → Value, (∀ d, t.getD d undef = f d) ∧ t = (a.toList.take lo ++ ((List.range' lo n).map f ++ a.toList.drop hi)).toArray := by
  refine ⟨fun d => t.getD d undef, fun _ => rfl, ?_⟩
  subst hn
  apply Array.ext
  · simp
    omega
  · intro k h1 h3
    have hk : t[k]? = (a.toList.take lo ++ ((List.range' lo n).map (fun d => t.getD d undef) ++ a.toList.drop (lo + n)))[k]? := by
      by_cases hlo : k < lo
      · have h := hold k (by omega)
        rw [Array.getD_eq_getD_getElem?, Array.getD_eq_getD_getElem?, Array.getElem?_eq_getElem h1, Array.getElem?_eq_getElem (show k < a.size by omega)] at h
        rw [List.getElem?_append_left (by simp; omega), List.getElem?_take, if_pos hlo, Array.getElem?_toList, Array.getElem?_eq_getElem h1, Array.getElem?_eq_getElem (show k < a.size by omega)]
        exact congrArg some h
      · rw [List.getElem?_append_right (by simp; omega)]
        have hl : (a.toList.take lo).length = lo := by simp; omega
        rw [hl]
        by_cases hhi : k < lo + n
        · rw [List.getElem?_append_left (by simp; omega), List.getElem?_map, List.getElem?_range' (by omega), Array.getElem?_eq_getElem h1]
          show _ = some (t.getD (lo + 1 * (k - lo)) undef)
          rw [show lo + 1 * (k - lo) = k by omega, Array.getD_eq_getD_getElem?, Array.getElem?_eq_getElem h1]
          rfl
        · have h := hold k (by omega)
          rw [Array.getD_eq_getD_getElem?, Array.getD_eq_getD_getElem?, Array.getElem?_eq_getElem h1, Array.getElem?_eq_getElem (show k < a.size by omega)] at h
          rw [List.getElem?_append_right (by simp; omega), List.getElem?_drop]
          have hr : ((List.range' lo n).map (fun d => t.getD d undef)).length = n := by simp
          rw [hr, show lo + n + (k - lo - n) = k by omega, Array.getElem?_toList, Array.getElem?_eq_getElem h1, Array.getElem?_eq_getElem (show k < a.size by omega)]
          exact congrArg some h
    rw [Array.getElem?_eq_getElem h1] at hk
    have h4 := hk.symm
    rw [List.getElem?_eq_getElem (by simpa using h3)] at h4
    have h5 := Option.some.inj h4
    simpa using h5.symm
end Go.Proofs.Ytpcdbmkmpphhiaa
