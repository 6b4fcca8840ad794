/- A region that draws its order, by facts on its slots: what each operation leaves is told once, whatever the order; an operation is walked once, out of what those have left that it waits for. (For regions in which memory is made beside calls: of such there are too many orders to go through.) No program is named here. A region by facts (Region): steps for operations that stand behind a guard. No program is named here. -/
import Derived.Test.YtmjcjelempidfaaRows
import Derived.RegionTactic
import Derived.Below
namespace Go.Proofs.Ytmjcjelempidfaa
open Go.RowKit

/-- the slot that operation i writes. -/
def dstOf (ops : Array Oper) (i : Nat) : Option Tmp := (ops[i]?).bind (·.dst)
/-- those that operation i waits for. -/
def predsOf (ops : Array Oper) (i : Nat) : List Nat :=
  match ops[i]? with
  | some o => (o.after.toList.filter (Region.binds .any)).map (·.on)
  | none => []
/-- each waits for earlier ones alone. -/
def orderedB (ops : Array Oper) : Bool := (List.range ops.size).all fun i => (predsOf ops i).all fun j => decide (j < i)
/-- each writes a slot below size, no two the same. -/
def slotsB (ops : Array Oper) (size : Nat) : Bool :=
  (List.range ops.size).all fun i => ((dstOf ops i).map fun d => decide (d < size)).getD false && (List.range ops.size).all fun j => i == j || dstOf ops i != dstOf ops j
/-- those that have not come up. -/
def leftOf (ops : Array Oper) (listed : Array Bool) : List Nat := (List.range ops.size).filter fun i => !listed.getD i true

theorem ordered_lt {ops : Array Oper} (h : orderedB ops = true) {i j : Nat} (hi : i < ops.size) (hj : j ∈ predsOf ops i) : j < i := by
  unfold orderedB at h
  rw [List.all_eq_true] at h
  have h1 := h i (List.mem_range.2 hi)
  rw [List.all_eq_true] at h1
  simpa using h1 j hj
theorem slots_some {ops : Array Oper} {size : Nat} (h : slotsB ops size = true) {i : Nat} (hi : i < ops.size) : ∃ d, dstOf ops i = some d ∧ d < size := by
  unfold slotsB at h
  rw [List.all_eq_true] at h
  have h1 := h i (List.mem_range.2 hi)
  rw [Bool.and_eq_true] at h1
  cases e : dstOf ops i with
  | none => rw [e] at h1; simp at h1
  | some d => rw [e] at h1; exact ⟨d, rfl, by simpa using h1.1⟩
theorem slots_unlike {ops : Array Oper} {size : Nat} (h : slotsB ops size = true) {i j : Nat} (hi : i < ops.size) (hj : j < ops.size) (hne : i ≠ j) : dstOf ops i ≠ dstOf ops j := by
  unfold slotsB at h
  rw [List.all_eq_true] at h
  have h1 := h i (List.mem_range.2 hi)
  rw [Bool.and_eq_true, List.all_eq_true] at h1
  have h2 := h1.2 j (List.mem_range.2 hj)
  simp only [Bool.or_eq_true, beq_iff_eq, bne_iff_ne] at h2
  exact h2.resolve_left hne
theorem dst_lt {ops : Array Oper} {j d : Nat} (h : dstOf ops j = some d) : j < ops.size := by
  apply Nat.lt_of_not_le
  intro hge
  unfold dstOf at h
  rw [Array.getElem?_eq_none hge] at h
  cases h

theorem not_dst {ops : Array Oper} {d : Nat} (h : ((List.range ops.size).all fun i => dstOf ops i != some d) = true) : ∀ i, dstOf ops i ≠ some d := fun i hi => by
  rw [List.all_eq_true] at h
  have h1 := h i (List.mem_range.2 (dst_lt hi))
  rw [hi] at h1
  simp at h1

theorem mem_preds {ops : Array Oper} {i : Nat} {listed : Array Bool} (hi : i ∈ Region.ready .any ops listed) : ∀ j ∈ predsOf ops i, listed.getD j false = true := by
  intro j hj
  obtain ⟨_, o, ho, hall⟩ := mem_ready.1 hi
  unfold predsOf at hj
  rw [ho] at hj
  obtain ⟨e, he, rfl⟩ := List.mem_map.1 hj
  obtain ⟨he1, he2⟩ := List.mem_filter.1 he
  exact hall e (by simpa using he1) he2
theorem ready_lt {ops : Array Oper} {i : Nat} {listed : Array Bool} (hi : i ∈ Region.ready .any ops listed) : i < ops.size := by
  obtain ⟨_, o, ho, _⟩ := mem_ready.1 hi
  exact (Array.getElem?_eq_some_iff.1 ho).1
/-- where none may come up, all have come up. -/
theorem all_listed {ops : Array Oper} {listed : Array Bool} (hord : orderedB ops = true) (hs : listed.size = ops.size) (hr : Region.ready .any ops listed = []) : ∀ j, j < ops.size → listed.getD j false = true := by
  intro j
  induction j using Nat.strongRecOn with
  | ind j ih =>
    intro hj
    apply Classical.byContradiction
    intro hno
    have hun : listed.getD j true = false := by
      simp only [Array.getD_eq_getD_getElem?, Array.getElem?_eq_getElem (show j < listed.size by omega), Option.getD_some] at hno ⊢
      simpa using hno
    have hmem : j ∈ Region.ready .any ops listed := by
      refine mem_ready.2 ⟨hun, ops[j], Array.getElem?_eq_getElem hj, fun e he hb => ?_⟩
      have hp : e.on ∈ predsOf ops j := by
        unfold predsOf
        rw [Array.getElem?_eq_getElem hj]
        exact List.mem_map.2 ⟨e, List.mem_filter.2 ⟨by simpa using he, hb⟩, rfl⟩
      have hlt := ordered_lt hord hj hp
      exact ih e.on hlt (by omega)
    rw [hr] at hmem
    cases hmem
theorem left_less {ops : Array Oper} {listed : Array Bool} {i : Nat} (hi : i ∈ Region.ready .any ops listed) (hs : listed.size = ops.size) : (leftOf ops (listed.setIfInBounds i true)).length < (leftOf ops listed).length := by
  have hlt := ready_lt hi
  have hun := (mem_ready.1 hi).1
  have e : leftOf ops (listed.setIfInBounds i true) = (leftOf ops listed).filter (fun k => decide (k ≠ i)) := by
    unfold leftOf
    rw [List.filter_filter]
    apply List.filter_congr
    intro k _
    by_cases hk : k = i
    · subst hk
      have : (listed.setIfInBounds k true).getD k true = true := by
        simp [Array.getD_eq_getD_getElem?, show k < listed.size by omega]
      simp [this]
    · rw [getD_set_ne true (fun h => hk h.symm)]
      simp [hk]
  rw [e]
  refine List.length_filter_lt_length_iff_exists.2 ⟨i, ?_, by simp⟩
  unfold leftOf
  exact List.mem_filter.2 ⟨List.mem_range.2 hlt, by simp [hun]⟩

theorem getD_put (t : Array Value) (d k : Nat) (v : Value) (hd : d < t.size) : (t.setIfInBounds d v).getD k undef = if d = k then v else t.getD k undef := by
  simp only [Array.getD_eq_getD_getElem?, Array.getElem?_setIfInBounds]
  by_cases h : d = k
  · subst h; simp [hd]
  · simp [h]

/-- a fact: this value. -/
def Is (u : Value) : Value → World → Prop := fun v _ => v = u
/-- a fact: a new slice of one element, which holds this value. -/
def Row (u : Value) : Value → World → Prop := fun v w => ∃ g, v = .slice (some ⟨g, 0, none⟩) 1 1 ∧ w.cell? ⟨g, 0, none⟩ = some u
theorem Is.mono {u v : Value} {w w' : World} (h : Is u v w) (_ : Below w.heap.size w w') : Is u v w' := h
theorem Row.mono {u v : Value} {w w' : World} (h : Row u v w) (hb : Below w.heap.size w w') : Row u v w' := by
  obtain ⟨g, e, hc⟩ := h
  refine ⟨g, e, (hb.cell (p := ⟨g, 0, none⟩) ?_).trans hc⟩
  apply Nat.lt_of_not_le
  intro hge
  simp [World.cell?, Array.getElem?_eq_none hge] at hc

section
variable {P : Program} {ops : Array Oper} {Q : Exit → Act → World → Prop} {Ψ : Nat → Value → World → Prop} {a0 : Act} {w0 : World}

/-- a state of the region. -/
structure At (ops : Array Oper) (Ψ : Nat → Value → World → Prop) (a0 : Act) (w0 : World) (listed : Array Bool) (a : Act) (w : World) : Prop where
  defers : a.defers = a0.defers
  size : a.tmps.size = a0.tmps.size
  old : ∀ d, (∀ i, dstOf ops i ≠ some d) → a.tmps.getD d undef = a0.tmps.getD d undef
  below : Below w0.heap.size w0 w
  facts : ∀ j d, listed.getD j false = true → dstOf ops j = some d → Ψ j (a.tmps.getD d undef) w

theorem At.step {listed : Array Bool} {a : Act} {w w' : World} {i d : Nat} {v : Value} (h : At ops Ψ a0 w0 listed a w) (hslots : slotsB ops a0.tmps.size = true) (hmono : ∀ j v w w', Ψ j v w → Below w.heap.size w w' → Ψ j v w')
    (hi : dstOf ops i = some d) (hb : Below w.heap.size w w') (hv : Ψ i v w') : At ops Ψ a0 w0 (listed.setIfInBounds i true) (a.put (some d) v) w' := by
  have hil := dst_lt hi
  have hds : d < a.tmps.size := by
    obtain ⟨d', e, hd'⟩ := slots_some hslots hil
    rw [hi] at e
    cases e
    rw [h.size]
    exact hd'
  refine ⟨h.defers, by simp [Act.put, h.size], fun k hk => ?_, h.below.trans (hb.mono h.below.size), fun j k hj hjd => ?_⟩
  · show (a.tmps.setIfInBounds d v).getD k undef = _
    rw [getD_put _ _ _ _ hds, if_neg (fun e => hk i (by rw [hi, e]))]
    exact h.old k hk
  · show Ψ j ((a.tmps.setIfInBounds d v).getD k undef) w'
    rw [getD_put _ _ _ _ hds]
    by_cases hji : j = i
    · subst hji
      rw [hi] at hjd
      cases hjd
      rw [if_pos rfl]
      exact hv
    · have hne := slots_unlike hslots (dst_lt hjd) hil hji
      rw [hjd, hi] at hne
      rw [if_neg (fun e => hne (by rw [e]))]
      refine hmono _ _ _ _ (h.facts j k ?_ hjd) hb
      rw [getD_set_ne false (fun e => hji e.symm)] at hj
      exact hj

theorem any_by_facts (hord : orderedB ops = true) (hslots : slotsB ops a0.tmps.size = true) (hmono : ∀ j v w w', Ψ j v w → Below w.heap.size w w' → Ψ j v w')
    (hstep : ∀ i, i < ops.size → ∀ a w, (∀ d, (∀ i, dstOf ops i ≠ some d) → a.tmps.getD d undef = a0.tmps.getD d undef) → Below w0.heap.size w0 w →
      (∀ j d, (predsOf ops i).contains j = true → dstOf ops j = some d → Ψ j (a.tmps.getD d undef) w) → wpOp P ops Q i (fun a' w' => ∃ d v, dstOf ops i = some d ∧ a' = a.put (some d) v ∧ Below w.heap.size w w' ∧ Ψ i v w') a w)
    (hdone : ∀ a w, a.defers = a0.defers → (∀ d, (∀ i, dstOf ops i ≠ some d) → a.tmps.getD d undef = a0.tmps.getD d undef) → Below w0.heap.size w0 w → (∀ j d, dstOf ops j = some d → Ψ j (a.tmps.getD d undef) w) → Q .normal a w) :
    ∀ fuel listed a w, listed.size = ops.size → (leftOf ops listed).length ≤ fuel → At ops Ψ a0 w0 listed a w → wpAny P .any ops Q fuel listed a w := by
  have fin : ∀ listed a w, listed.size = ops.size → At ops Ψ a0 w0 listed a w → Region.ready .any ops listed = [] → Q .normal a w := fun listed a w hs h hr =>
    hdone a w h.defers h.old h.below fun j d hj => h.facts j d (all_listed hord hs hr j (dst_lt hj)) hj
  intro fuel
  induction fuel with
  | zero =>
    intro listed a w hs hl h
    have hr : Region.ready .any ops listed = [] := by
      cases e : Region.ready .any ops listed with
      | nil => rfl
      | cons x xs =>
        have := left_less (ops := ops) (listed := listed) (i := x) (by rw [e]; exact List.mem_cons_self ..) hs
        omega
    exact ⟨hr, fin listed a w hs h hr⟩
  | succ fuel ih =>
    intro listed a w hs hl h
    refine ⟨fun hr => fin listed a w hs h hr, fun i hi => ?_⟩
    refine wpOp_mono (fun a' w' hK => ?_) (hstep i (ready_lt hi) a w h.old h.below fun j d hj hd => h.facts j d (mem_preds hi j (by simpa using hj)) hd)
    obtain ⟨d, v, hd, rfl, hb, hv⟩ := hK
    have hless := left_less hi hs
    exact ih _ _ _ (by simpa using hs) (by omega) (h.step hslots hmono hd hb hv)

theorem any_then (hord : orderedB ops = true) (hslots : slotsB ops a0.tmps.size = true) (hmono : ∀ j v w w', Ψ j v w → Below w.heap.size w w' → Ψ j v w')
    (hstep : ∀ i, i < ops.size → ∀ a w, (∀ d, (∀ i, dstOf ops i ≠ some d) → a.tmps.getD d undef = a0.tmps.getD d undef) → Below w0.heap.size w0 w →
      (∀ j d, (predsOf ops i).contains j = true → dstOf ops j = some d → Ψ j (a.tmps.getD d undef) w) → wpOp P ops Q i (fun a' w' => ∃ d v, dstOf ops i = some d ∧ a' = a.put (some d) v ∧ Below w.heap.size w w' ∧ Ψ i v w') a w)
    (hdone : ∀ a w, a.defers = a0.defers → a.tmps.size = a0.tmps.size → (∀ d, (∀ i, dstOf ops i ≠ some d) → a.tmps.getD d undef = a0.tmps.getD d undef) → Below w0.heap.size w0 w → (∀ j d, dstOf ops j = some d → Ψ j (a.tmps.getD d undef) w) → Q .normal a w) :
    ∀ fuel listed a w, listed.size = ops.size → (leftOf ops listed).length ≤ fuel → At ops Ψ a0 w0 listed a w → wpAny P .any ops Q fuel listed a w := by
  have fin : ∀ listed a w, listed.size = ops.size → At ops Ψ a0 w0 listed a w → Region.ready .any ops listed = [] → Q .normal a w := fun listed a w hs h hr =>
    hdone a w h.defers h.size h.old h.below fun j d hj => h.facts j d (all_listed hord hs hr j (dst_lt hj)) hj
  intro fuel
  induction fuel with
  | zero =>
    intro listed a w hs hl h
    have hr : Region.ready .any ops listed = [] := by
      cases e : Region.ready .any ops listed with
      | nil => rfl
      | cons x xs =>
        have := left_less (ops := ops) (listed := listed) (i := x) (by rw [e]; exact List.mem_cons_self ..) hs
        omega
    exact ⟨hr, fin listed a w hs h hr⟩
  | succ fuel ih =>
    intro listed a w hs hl h
    refine ⟨fun hr => fin listed a w hs h hr, fun i hi => ?_⟩
    refine wpOp_mono (fun a' w' hK => ?_) (hstep i (ready_lt hi) a w h.old h.below fun j d hj hd => h.facts j d (mem_preds hi j (by simpa using hj)) hd)
    obtain ⟨d, v, hd, rfl, hb, hv⟩ := hK
    have hless := left_less hi hs
    exact ih _ _ _ (by simpa using hs) (by omega) (h.step hslots hmono hd hb hv)

/-- THE REGION, BY FACTS. -/
theorem region_by_facts {id : Nat} {w : World} (hm : P.follows .mixedOrders = true) (hord : orderedB ops = true) (hslots : slotsB ops a0.tmps.size = true) (hmono : ∀ j v w w', Ψ j v w → Below w.heap.size w w' → Ψ j v w')
    (hstep : ∀ i, i < ops.size → ∀ a wx, (∀ d, (∀ i, dstOf ops i ≠ some d) → a.tmps.getD d undef = a0.tmps.getD d undef) → Below w.heap.size w wx →
      (∀ j d, (predsOf ops i).contains j = true → dstOf ops j = some d → Ψ j (a.tmps.getD d undef) wx) → wpOp P ops Q i (fun a' w' => ∃ d v, dstOf ops i = some d ∧ a' = a.put (some d) v ∧ Below wx.heap.size wx w' ∧ Ψ i v w') a wx)
    (hdone : ∀ a wx, a.defers = a0.defers → (∀ d, (∀ i, dstOf ops i ≠ some d) → a.tmps.getD d undef = a0.tmps.getD d undef) → Below w.heap.size w wx → (∀ j d, dstOf ops j = some d → Ψ j (a.tmps.getD d undef) wx) → Q .normal a wx) :
    (Code.region id ops true).wp P Q a0 w := by
  refine wp_region_any hm ?_
  have hb0 : Below w.heap.size w w.drew := ⟨rfl, rfl, rfl, Nat.le_refl _, fun _ _ => rfl⟩
  refine any_by_facts (w0 := w.drew) hord hslots hmono (fun i hi a wx h1 h2 h3 => hstep i hi a wx h1 (hb0.trans (h2.mono hb0.size)) h3) (fun a wx h0 h1 h2 h3 => hdone a wx h0 h1 (hb0.trans (h2.mono hb0.size)) h3) _ _ _ _ (by simp) ?_ ⟨rfl, rfl, fun _ _ => rfl, Below.refl _ _, fun j d hj _ => ?_⟩
  · unfold leftOf
    exact Nat.le_trans (List.length_filter_le _ _) (by simp)
  · exfalso
    revert hj
    simp only [Array.getD_eq_getD_getElem?, Array.getElem?_replicate]
    split <;> simp
/-- The same, where the function goes on: behind the region the slots are told one by one (frame_lit lays the frame out). -/
theorem region_then {id : Nat} {w : World} (hm : P.follows .mixedOrders = true) (hord : orderedB ops = true) (hslots : slotsB ops a0.tmps.size = true) (hmono : ∀ j v w w', Ψ j v w → Below w.heap.size w w' → Ψ j v w')
    (hstep : ∀ i, i < ops.size → ∀ a wx, (∀ d, (∀ i, dstOf ops i ≠ some d) → a.tmps.getD d undef = a0.tmps.getD d undef) → Below w.heap.size w wx →
      (∀ j d, (predsOf ops i).contains j = true → dstOf ops j = some d → Ψ j (a.tmps.getD d undef) wx) → wpOp P ops Q i (fun a' w' => ∃ d v, dstOf ops i = some d ∧ a' = a.put (some d) v ∧ Below wx.heap.size wx w' ∧ Ψ i v w') a wx)
    (hdone : ∀ (t : Array Value) wx, t.size = a0.tmps.size → (∀ d, (∀ i, dstOf ops i ≠ some d) → t.getD d undef = a0.tmps.getD d undef) → Below w.heap.size w wx → (∀ j d, dstOf ops j = some d → Ψ j (t.getD d undef) wx) → Q .normal { tmps := t, defers := a0.defers } wx) :
    (Code.region id ops true).wp P Q a0 w := by
  refine wp_region_any hm ?_
  have hb0 : Below w.heap.size w w.drew := ⟨rfl, rfl, rfl, Nat.le_refl _, fun _ _ => rfl⟩
  exact any_then (w0 := w.drew) hord hslots hmono (fun i hi a wx h1 h2 h3 => hstep i hi a wx h1 (hb0.trans (h2.mono hb0.size)) h3) (fun a wx h0 hs h1 h2 h3 => by
    have h := hdone a.tmps wx hs h1 (hb0.trans (h2.mono hb0.size)) h3
    rw [← h0] at h
    exact h) _ _ _ _ (by simp) (by
      unfold leftOf
      exact Nat.le_trans (List.length_filter_le _ _) (by simp)) ⟨rfl, rfl, fun _ _ => rfl, Below.refl _ _, fun j d hj _ => by
        exfalso
        revert hj
        simp only [Array.getD_eq_getD_getElem?, Array.getElem?_replicate]
        split <;> simp⟩
/-- a frame, slot by slot. -/
theorem frame_lit {t : Array Value} {N : Nat} (h : t.size = N) : t = ((List.range N).map fun k => t.getD k undef).toArray := by
  subst h
  apply Array.ext
  · simp
  · intro i h1 h2
    simp [Array.getD_eq_getD_getElem?, Array.getElem?_eq_getElem h1]
end
end Go.Proofs.Ytmjcjelempidfaa

namespace Go.Proofs.Ytmjcjelempidfaa
open Go.RowKit

section
variable {P : Program} {ops : Array Oper} {Q : Exit → Act → World → Prop}
theorem yielded_at {g d : Nat} {t : Array Value} {u : Value} (hd : dstOf ops g = some d) (hv : t.getD d undef = u) : ∀ b, (yielded ops t g = some b ↔ u = .bool b) := by
  intro b
  unfold dstOf at hd
  unfold yielded
  rw [hd]
  subst hv
  show (match t[d]? with | some (.bool b) => some b | _ => none) = some b ↔ _
  rw [Array.getD_eq_getD_getElem?]
  rcases h : t[d]? with _ | u
  · simp [undef]
  · cases u <;> simp
/-- an operation behind a guard that lets it run. -/
theorem wpOp_wanted {i g d : Nat} {b : Bool} {o : Oper} {K : Act → World → Prop} {a : Act} {w : World} (ho : ops[i]? = some o) (hg : o.guard = some (g, b)) (hd : dstOf ops g = some d) (hv : a.tmps.getD d undef = .bool b)
    (h : ∀ K' : Act → World → Prop, (∀ a w, K a w → K' a w) → Oper.wp P o a w K' Q) : wpOp P ops Q i K a w := by
  refine wpOp_step ho fun K' hK => ?_
  rw [if_pos (by
    unfold Region.wanted
    rw [hg]
    show (yielded ops a.tmps g == some b) = true
    rw [(yielded_at hd hv b).2 rfl]
    simp)]
  exact h K' hK
/-- an operation behind a guard that lets it out. -/
theorem wpOp_passed {i g d : Nat} {b : Bool} {o : Oper} {u : Value} {K : Act → World → Prop} {a : Act} {w : World} (ho : ops[i]? = some o) (hg : o.guard = some (g, b)) (hd : dstOf ops g = some d) (hv : a.tmps.getD d undef = u) (hu : u ≠ .bool b)
    (h : K (a.put o.dst undef) w) : wpOp P ops Q i K a w := by
  refine wpOp_step ho fun K' hK => ?_
  rw [if_neg (by
    unfold Region.wanted
    rw [hg]
    show ¬ (yielded ops a.tmps g == some b) = true
    intro e
    rw [beq_iff_eq] at e
    exact hu ((yielded_at hd hv b).1 e))]
  exact hK _ _ h
end

/-- all slots that a region writes. -/
def inB (ops : Array Oper) (ds : List Nat) : Bool := (List.range ops.size).all fun i => match dstOf ops i with | some d => ds.contains d | none => true
theorem not_in {ops : Array Oper} {ds : List Nat} (h : inB ops ds = true) {d : Nat} (hd : d ∉ ds) : ∀ i, dstOf ops i ≠ some d := fun i e => by
  unfold inB at h
  rw [List.all_eq_true] at h
  have h1 := h i (List.mem_range.2 (dst_lt e))
  rw [e] at h1
  exact hd (by simpa using h1)
/-- the frame behind a region: as it was, but for those slots. -/
theorem frame_sets {t a : Array Value} (hs : t.size = a.size) (ds : List Nat) (hold : ∀ d, d ∉ ds → t.getD d undef = a.getD d undef) : ∃ f : Nat → Value, (∀ d, t.getD d undef = f d) ∧ t = ds.foldl (fun acc d => acc.setIfInBounds d (f d)) a := by
  refine ⟨fun d => t.getD d undef, fun _ => rfl, ?_⟩
  have size : ∀ (ds : List Nat) (b : Array Value), (ds.foldl (fun acc d => acc.setIfInBounds d (t.getD d undef)) b).size = b.size := by
    intro ds
    induction ds with
    | nil => intro b; rfl
    | cons d ds ih => intro b; rw [List.foldl_cons, ih]; simp
  have get : ∀ (ds : List Nat) (b : Array Value) (k : Nat), k < b.size → (ds.foldl (fun acc d => acc.setIfInBounds d (t.getD d undef)) b).getD k undef = if k ∈ ds then t.getD k undef else b.getD k undef := by
    intro ds
    induction ds with
    | nil => intro b k _; simp
    | cons d ds ih =>
      intro b k hk
      rw [List.foldl_cons, ih _ _ (by simpa using hk)]
      by_cases h1 : k ∈ ds
      · rw [if_pos h1, if_pos (List.mem_cons_of_mem _ h1)]
      · rw [if_neg h1]
        by_cases h2 : k = d
        · subst h2
          rw [if_pos (List.mem_cons_self ..), getD_put _ _ _ _ hk, if_pos rfl]
        · rw [if_neg (by
            rw [List.mem_cons]
            exact fun h => h.elim h2 h1)]
          simp only [Array.getD_eq_getD_getElem?, Array.getElem?_setIfInBounds]
          rw [if_neg (fun e => h2 e.symm)]
  apply Array.ext
  · rw [size, hs]
  · intro k h1 h2
    have h3 := get ds a k (by omega)
    have h4 : (ds.foldl (fun acc d => acc.setIfInBounds d (t.getD d undef)) a).getD k undef = t.getD k undef := by
      rw [h3]
      by_cases h : k ∈ ds
      · rw [if_pos h]
      · rw [if_neg h, hold k h]
    rw [Array.getD_eq_getD_getElem?, Array.getD_eq_getD_getElem?, Array.getElem?_eq_getElem h1, Array.getElem?_eq_getElem h2] at h4
    exact h4.symm

/-- a region writes the slots from lo on, below hi. -/
def rangeB (ops : Array Oper) (lo hi : Nat) : Bool := (List.range ops.size).all fun i => match dstOf ops i with | some d => decide (lo ≤ d) && decide (d < hi) | none => true
theorem not_range {ops : Array Oper} {lo hi : Nat} (h : rangeB ops lo hi = true) {d : Nat} (hd : ¬ (lo ≤ d ∧ d < hi)) : ∀ i, dstOf ops i ≠ some d := fun i e => by
  unfold rangeB at h
  rw [List.all_eq_true] at h
  have h1 := h i (List.mem_range.2 (dst_lt e))
  rw [e] at h1
  simp at h1
  exact hd h1
/-- the frame behind a region: as it was, but for those slots. -/
theorem frame_part {t a : Array Value} (hs : t.size = a.size) (lo n hi : Nat) (hn : lo + n = hi) (h2 : hi ≤ a.size) (hold : ∀ d, ¬ (lo ≤ d ∧ d < hi) → t.getD d undef = a.getD d undef) :
    ∃ f : Nat → Value, (∀ d, t.getD d undef = f d) ∧ t = (a.toList.take lo ++ ((List.range' lo n).map f ++ a.toList.drop hi)).toArray := by
  refine ⟨fun d => t.getD d undef, fun _ => rfl, ?_⟩
  subst hn
  apply Array.ext
  · simp
    omega
  · intro k h1 h3
    have hk : t[k]? = (a.toList.take lo ++ ((List.range' lo n).map (fun d => t.getD d undef) ++ a.toList.drop (lo + n)))[k]? := by
      by_cases hlo : k < lo
      · have h := hold k (by omega)
        rw [Array.getD_eq_getD_getElem?, Array.getD_eq_getD_getElem?, Array.getElem?_eq_getElem h1, Array.getElem?_eq_getElem (show k < a.size by omega)] at h
        rw [List.getElem?_append_left (by simp; omega), List.getElem?_take, if_pos hlo, Array.getElem?_toList, Array.getElem?_eq_getElem h1, Array.getElem?_eq_getElem (show k < a.size by omega)]
        exact congrArg some h
      · rw [List.getElem?_append_right (by simp; omega)]
        have hl : (a.toList.take lo).length = lo := by simp; omega
        rw [hl]
        by_cases hhi : k < lo + n
        · rw [List.getElem?_append_left (by simp; omega), List.getElem?_map, List.getElem?_range' (by omega), Array.getElem?_eq_getElem h1]
          show _ = some (t.getD (lo + 1 * (k - lo)) undef)
          rw [show lo + 1 * (k - lo) = k by omega, Array.getD_eq_getD_getElem?, Array.getElem?_eq_getElem h1]
          rfl
        · have h := hold k (by omega)
          rw [Array.getD_eq_getD_getElem?, Array.getD_eq_getD_getElem?, Array.getElem?_eq_getElem h1, Array.getElem?_eq_getElem (show k < a.size by omega)] at h
          rw [List.getElem?_append_right (by simp; omega), List.getElem?_drop]
          have hr : ((List.range' lo n).map (fun d => t.getD d undef)).length = n := by simp
          rw [hr, show lo + n + (k - lo - n) = k by omega, Array.getElem?_toList, Array.getElem?_eq_getElem h1, Array.getElem?_eq_getElem (show k < a.size by omega)]
          exact congrArg some h
    rw [Array.getElem?_eq_getElem h1] at hk
    have h4 := hk.symm
    rw [List.getElem?_eq_getElem (by simpa using h3)] at h4
    have h5 := Option.some.inj h4
    simpa using h5.symm
end Go.Proofs.Ytmjcjelempidfaa
