/- A round of frames and a hand: what a cache does, plain (P7.2, P7.3). Plain facts of a cache: how many frames there are, how great its numbers are. How often a page is held, behind Hold and Drop. How many frames are held, told by pages. Where the hand finds nothing in two rounds, every frame is held. What the laws of layer 7 ask of a cache, plain: hits and misses, which pages are there, what is held. -/
import Derived.Test.YtjmajminfmcjcaaDoorMake
namespace Go.Proofs.YtjmajminfmcjcaaDoor
open Go.RowKit

/-- a frame: its page (-1: empty), how often it is held, its mark. -/
structure Fr where
  page : Int
  held : Nat
  mark : Bool
/-- a cache: how many pages its image has, its frames, where the hand is, hits and misses. -/
structure CS where
  n : Nat
  F : List Fr
  hand : Nat
  hits : Nat
  misses : Nat
/-- the first frame that has this page. -/
def findF (F : List Fr) (x : Int) : Option Nat := F.findIdx? fun f => f.page == x
/-- where the hand goes next. -/
def nextH (len h : Nat) : Nat := if h + 1 = len then 0 else h + 1
/-- may the frame under the hand be taken? -/
def freeF (F : List Fr) (h : Nat) : Bool := match F[h]? with
  | some f => f.held == 0 && !f.mark
  | none => false
/-- what the hand leaves of the frame that it passes. -/
def clearF (F : List Fr) (h : Nat) : List Fr := match F[h]? with
  | some f => if f.held = 0 then F.set h { f with mark := false } else F
  | none => F
/-- the hand goes on, so many frames at most: which frame is taken, how the frames are then, where the hand is. -/
def sweep : Nat → List Fr → Nat → Option (Nat × List Fr × Nat)
  | 0, _, _ => none
  | k + 1, F, h => if freeF F h then some (h, F, nextH F.length h) else sweep k (clearF F h) (nextH F.length h)
/-- what Hold does: the cache then, was it a hit, the error. -/
def holdR (c : CS) (x : Int) : CS × Bool × Nat :=
  if x < 0 ∨ (c.n : Int) ≤ x then (c, false, 222)
  else match findF c.F x with
    | some i => ({ c with F := c.F.modify i fun f => { f with held := f.held + 1, mark := true }, hits := c.hits + 1 }, true, 0)
    | none => match findF c.F (-1) with
      | some i => ({ c with F := c.F.set i ⟨x, 1, true⟩, misses := c.misses + 1 }, false, 0)
      | none => match sweep (2 * c.F.length) c.F c.hand with
        | some (i, F, h) => ({ c with F := F.set i ⟨x, 1, true⟩, hand := h, misses := c.misses + 1 }, false, 0)
        | none => (c, false, 70)
/-- how often the page x is held. -/
def heldF (F : List Fr) (x : Int) : Nat := match findF F x with
  | some i => (F[i]?.map Fr.held).getD 0
  | none => 0
/-- what Drop does. -/
def dropR (c : CS) (x : Int) : CS × Bool :=
  if x < 0 ∨ heldF c.F x = 0 then (c, false)
  else match findF c.F x with
    | some i => ({ c with F := c.F.modify i fun f => { f with held := f.held - 1 } }, true)
    | none => (c, false)
/-- has a frame the page? -/
def hasR (c : CS) (x : Int) : Bool := decide (0 ≤ x) && (findF c.F x).isSome
/-- how many frames have a page, how many of them are held. -/
def heldN (F : List Fr) : Nat := F.countP fun f => decide (0 ≤ f.page)
def pinnedN (F : List Fr) : Nat := F.countP fun f => decide (0 < f.held)
/-- a new cache. -/
def newC (n k : Nat) : CS := ⟨n, List.replicate k ⟨-1, 0, false⟩, 0, 0, 0⟩

theorem findF_some {F : List Fr} {x : Int} {i : Nat} (h : findF F x = some i) : ∃ f, F[i]? = some f ∧ f.page = x ∧ ∀ (j : Nat) (g : Fr), j < i → F[j]? = some g → g.page ≠ x := by
  unfold findF at h
  rw [List.findIdx?_eq_some_iff_getElem] at h
  obtain ⟨hi, h1, h2⟩ := h
  refine ⟨F[i], List.getElem?_eq_getElem hi, by simpa using h1, fun j g hj hg => ?_⟩
  have h3 := h2 j hj
  obtain ⟨hjl, hge⟩ := List.getElem?_eq_some_iff.1 hg
  rw [hge] at h3
  simpa using h3
theorem findF_none {F : List Fr} {x : Int} (h : findF F x = none) : ∀ (j : Nat) (g : Fr), F[j]? = some g → g.page ≠ x := fun j g hg => by
  unfold findF at h
  rw [List.findIdx?_eq_none_iff] at h
  simpa using h g (List.mem_of_getElem? hg)
theorem findF_is {F : List Fr} {x : Int} {i : Nat} {f : Fr} (hi : F[i]? = some f) (hf : f.page = x) (hl : ∀ (j : Nat) (g : Fr), j < i → F[j]? = some g → g.page ≠ x) : findF F x = some i := by
  unfold findF
  rw [List.findIdx?_eq_some_iff_getElem]
  obtain ⟨hil, he⟩ := List.getElem?_eq_some_iff.1 hi
  refine ⟨hil, by rw [he]; simpa using hf, fun j hj => ?_⟩
  have h := hl j F[j] hj (List.getElem?_eq_getElem (by omega))
  simpa using h
theorem findF_no {F : List Fr} {x : Int} (hl : ∀ (j : Nat) (g : Fr), F[j]? = some g → g.page ≠ x) : findF F x = none := by
  unfold findF
  rw [List.findIdx?_eq_none_iff]
  intro f hf
  obtain ⟨j, hj, rfl⟩ := List.getElem_of_mem hf
  have h := hl j _ (List.getElem?_eq_getElem hj)
  simpa using h
theorem clearF_length (F : List Fr) (h : Nat) : (clearF F h).length = F.length := by
  unfold clearF
  split
  · split
    · rw [List.length_set]
    · rfl
  · rfl
theorem nextH_lt {len h : Nat} (hl : h < len) : nextH len h < len := by
  unfold nextH
  split <;> omega

/-! Frames as cells. -/
def fieldF (f : Fr) (j : Nat) : Value := if j = 0 then .int .i64 f.page else if j = 1 then .int .i64 (f.held : Int) else .bool f.mark
def fcells (F : List Fr) : List Value := F.flatMap fun f => [fieldF f 0, fieldF f 1, fieldF f 2]
theorem fcells_length : ∀ F : List Fr, (fcells F).length = F.length * 3
  | [] => rfl
  | f :: F => by
    unfold fcells
    rw [List.flatMap_cons, List.length_append, show (F.flatMap fun f => [fieldF f 0, fieldF f 1, fieldF f 2]) = fcells F from rfl, fcells_length F, List.length_cons]
    simp
    omega
theorem fcells_get : ∀ (F : List Fr) (k : Nat), (fcells F)[k]? = F[k / 3]?.map fun f => fieldF f (k % 3)
  | [], k => by simp [fcells]
  | f :: F, k => by
    unfold fcells
    rw [List.flatMap_cons]
    by_cases h : k < 3
    · rw [List.getElem?_append_left (by simpa using h), show k / 3 = 0 by omega]
      have h3 : k = 0 ∨ k = 1 ∨ k = 2 := by omega
      rcases h3 with rfl | rfl | rfl <;> rfl
    · rw [List.getElem?_append_right (by simp; omega), show k / 3 = (k - 3) / 3 + 1 by omega, List.getElem?_cons_succ, show k % 3 = (k - 3) % 3 by omega]
      exact fcells_get F (k - 3)
theorem fcells_at (F : List Fr) (i j : Nat) (f : Fr) (hi : F[i]? = some f) (hj : j < 3) : (fcells F)[i * 3 + j]? = some (fieldF f j) := by
  rw [fcells_get, show (i * 3 + j) / 3 = i by omega, show (i * 3 + j) % 3 = j by omega, hi]
  rfl
theorem fcells_set (F : List Fr) (i j : Nat) (f f' : Fr) (hi : F[i]? = some f) (hj : j < 3) (hk : ∀ j', j' < 3 → j' ≠ j → fieldF f' j' = fieldF f j') : (fcells F).set (i * 3 + j) (fieldF f' j) = fcells (F.set i f') := by
  have hil := (List.getElem?_eq_some_iff.1 hi).1
  apply List.ext_getElem?
  intro k
  rw [List.getElem?_set, fcells_length, fcells_get, fcells_get, List.getElem?_set]
  by_cases h : i * 3 + j = k
  · subst h
    rw [if_pos rfl, if_pos (by omega), show (i * 3 + j) / 3 = i by omega, show (i * 3 + j) % 3 = j by omega, if_pos rfl, if_pos hil]
    rfl
  · rw [if_neg h]
    by_cases h2 : i = k / 3
    · rw [if_pos h2, if_pos hil, ← h2, hi]
      show some (fieldF f (k % 3)) = some (fieldF f' (k % 3))
      rw [hk (k % 3) (by omega) (by omega)]
    · rw [if_neg h2]
theorem fcells_append (F G : List Fr) : fcells (F ++ G) = fcells F ++ fcells G := by unfold fcells; rw [List.flatMap_append]
end Go.Proofs.YtjmajminfmcjcaaDoor

namespace Go.Proofs.YtjmajminfmcjcaaDoor
open Go.RowKit

theorem sweep_length : ∀ (k : Nat) (F : List Fr) (h i : Nat) (F' : List Fr) (h' : Nat), sweep k F h = some (i, F', h') → F'.length = F.length
  | 0, _, _, _, _, _, e => by cases e
  | k + 1, F, h, i, F', h', e => by
    unfold sweep at e
    split at e
    · cases e
      rfl
    · rw [sweep_length k _ _ _ _ _ e, clearF_length]
theorem holdR_length (c : CS) (x : Int) : (holdR c x).1.F.length = c.F.length := by
  unfold holdR
  split
  · rfl
  · split
    · exact List.length_modify _ _ _
    · split
      · exact List.length_set
      · split
        · rename_i e
          exact (List.length_set).trans (sweep_length _ _ _ _ _ _ e)
        · rfl
theorem holdR_n (c : CS) (x : Int) : (holdR c x).1.n = c.n := by
  unfold holdR
  split
  · rfl
  · split
    · rfl
    · split
      · rfl
      · split <;> rfl
theorem dropR_length (c : CS) (x : Int) : (dropR c x).1.F.length = c.F.length := by
  unfold dropR
  split
  · rfl
  · split
    · exact List.length_modify _ _ _
    · rfl
theorem dropR_rest (c : CS) (x : Int) : (dropR c x).1.n = c.n ∧ (dropR c x).1.hits = c.hits ∧ (dropR c x).1.misses = c.misses ∧ (dropR c x).1.hand = c.hand := by
  unfold dropR
  split
  · exact ⟨rfl, rfl, rfl, rfl⟩
  · split <;> exact ⟨rfl, rfl, rfl, rfl⟩

/-- no frame is held more than m times. -/
def HeldTo (F : List Fr) (m : Nat) : Prop := ∀ f ∈ F, f.held ≤ m
theorem clearF_held {F : List Fr} {m : Nat} (h : HeldTo F m) (i : Nat) : HeldTo (clearF F i) m := by
  unfold clearF
  split
  · rename_i f e
    split
    · intro g hg
      rcases List.mem_or_eq_of_mem_set hg with h1 | rfl
      · exact h g h1
      · exact h f (List.mem_of_getElem? e)
    · exact h
  · exact h
theorem sweep_held : ∀ (k : Nat) (F : List Fr) (h i : Nat) (F' : List Fr) (h' m : Nat), sweep k F h = some (i, F', h') → HeldTo F m → HeldTo F' m
  | 0, _, _, _, _, _, _, e, _ => by cases e
  | k + 1, F, h, i, F', h', m, e, hm => by
    unfold sweep at e
    split at e
    · cases e
      exact hm
    · exact sweep_held k _ _ _ _ _ m e (clearF_held hm h)
theorem heldTo_set {F : List Fr} {m : Nat} (h : HeldTo F m) (i : Nat) (f : Fr) (hf : f.held ≤ m) : HeldTo (F.set i f) m := fun g hg => by
  rcases List.mem_or_eq_of_mem_set hg with h1 | rfl
  · exact h g h1
  · exact hf
theorem heldTo_modify {F : List Fr} {m m' : Nat} (h : HeldTo F m) (i : Nat) (t : Fr → Fr) (hm : m ≤ m') (ht : ∀ f, f.held ≤ m → (t f).held ≤ m') : HeldTo (F.modify i t) m' := fun g hg => by
  obtain ⟨j, hj, rfl⟩ := List.getElem_of_mem hg
  rw [List.getElem_modify]
  rw [List.length_modify] at hj
  have h1 := h _ (List.getElem_mem hj)
  split
  · exact ht _ h1
  · omega
/-- the numbers of a cache, m calls of Hold behind its beginning at most. -/
structure Upto (c : CS) (m : Nat) : Prop where
  held : HeldTo c.F m
  hits : c.hits ≤ m
  misses : c.misses ≤ m
theorem Upto.hold {c : CS} {m : Nat} (h : Upto c m) (x : Int) : Upto (holdR c x).1 (m + 1) := by
  have hh : HeldTo c.F (m + 1) := fun f hf => by have := h.held f hf; omega
  have h1 := h.hits
  have h2 := h.misses
  unfold holdR
  split
  · exact ⟨hh, Nat.le_succ_of_le h1, Nat.le_succ_of_le h2⟩
  · split
    · exact ⟨heldTo_modify h.held _ _ (by omega) fun f hf => by show f.held + 1 ≤ m + 1; omega, by show c.hits + 1 ≤ m + 1; omega, by show c.misses ≤ m + 1; omega⟩
    · split
      · exact ⟨heldTo_set hh _ _ (by show 1 ≤ m + 1; omega), by show c.hits ≤ m + 1; omega, by show c.misses + 1 ≤ m + 1; omega⟩
      · split
        · rename_i e
          exact ⟨heldTo_set (sweep_held _ _ _ _ _ _ _ e hh) _ _ (by show 1 ≤ m + 1; omega), by show c.hits ≤ m + 1; omega, by show c.misses + 1 ≤ m + 1; omega⟩
        · exact ⟨hh, Nat.le_succ_of_le h1, Nat.le_succ_of_le h2⟩
theorem Upto.drop {c : CS} {m : Nat} (h : Upto c m) (x : Int) : Upto (dropR c x).1 m := by
  unfold dropR
  split
  · exact h
  · split
    · exact ⟨heldTo_modify h.held _ _ (Nat.le_refl _) fun f hf => by show f.held - 1 ≤ m; omega, h.hits, h.misses⟩
    · exact h
theorem Upto.new (n k : Nat) : Upto (newC n k) 0 := ⟨fun f hf => by
  have h := List.eq_of_mem_replicate hf
  rw [h]
  exact Nat.le_refl 0, Nat.le_refl _, Nat.le_refl _⟩

/-- no two frames have the same page. -/
def Unlike (F : List Fr) : Prop := ∀ (i j : Nat) (f g : Fr), F[i]? = some f → F[j]? = some g → 0 ≤ f.page → f.page = g.page → i = j
theorem unlike_same {F G : List Fr} (h : Unlike F) (hp : G.map Fr.page = F.map Fr.page) : Unlike G := by
  have key : ∀ (i : Nat) (f : Fr), G[i]? = some f → ∃ f', F[i]? = some f' ∧ f'.page = f.page := by
    intro i f hf
    have h1 : (G.map Fr.page)[i]? = some f.page := by rw [List.getElem?_map, hf]; rfl
    rw [hp, List.getElem?_map] at h1
    rcases e : F[i]? with _ | f'
    · rw [e] at h1
      cases h1
    · rw [e] at h1
      exact ⟨f', rfl, Option.some.inj h1⟩
  intro i j f g hf hg h0 he
  obtain ⟨f', hf', e1⟩ := key i f hf
  obtain ⟨g', hg', e2⟩ := key j g hg
  exact h i j f' g' hf' hg' (by omega) (by omega)
theorem unlike_set {F : List Fr} (h : Unlike F) (i : Nat) (f : Fr) (hn : ∀ (j : Nat) (g : Fr), F[j]? = some g → g.page ≠ f.page) : Unlike (F.set i f) := by
  intro a b p q hp hq h0 he
  rw [List.getElem?_set] at hp hq
  by_cases ea : i = a <;> by_cases eb : i = b
  · omega
  · rw [if_neg eb] at hq
    rw [if_pos ea] at hp
    split at hp
    · cases hp
      exact absurd he.symm (hn b q hq)
    · cases hp
  · rw [if_neg ea] at hp
    rw [if_pos eb] at hq
    split at hq
    · cases hq
      exact absurd he (hn a p hp)
    · cases hq
  · rw [if_neg ea] at hp
    rw [if_neg eb] at hq
    exact h a b p q hp hq h0 he
theorem clearF_pages (F : List Fr) (h : Nat) : (clearF F h).map Fr.page = F.map Fr.page := by
  unfold clearF
  split
  · rename_i f e
    split
    · apply List.ext_getElem?
      intro j
      rw [List.getElem?_map, List.getElem?_map, List.getElem?_set]
      by_cases e2 : h = j
      · rw [if_pos e2, if_pos (List.getElem?_eq_some_iff.1 e).1, ← e2, e]
        rfl
      · rw [if_neg e2]
    · rfl
  · rfl
theorem sweep_pages : ∀ (k : Nat) (F : List Fr) (h i : Nat) (F' : List Fr) (h' : Nat), sweep k F h = some (i, F', h') → F'.map Fr.page = F.map Fr.page
  | 0, _, _, _, _, _, e => by cases e
  | k + 1, F, h, i, F', h', e => by
    unfold sweep at e
    split at e
    · cases e
      rfl
    · rw [sweep_pages k _ _ _ _ _ e, clearF_pages]
theorem modify_pages (F : List Fr) (i : Nat) (t : Fr → Fr) (ht : ∀ f, (t f).page = f.page) : (F.modify i t).map Fr.page = F.map Fr.page := by
  apply List.ext_getElem?
  intro j
  rw [List.getElem?_map, List.getElem?_map, List.getElem?_modify]
  rcases F[j]? with _ | f
  · rfl
  · by_cases e : i = j
    · simp [e, ht]
    · simp [e]
theorem no_page {F G : List Fr} (hp : G.map Fr.page = F.map Fr.page) {x : Int} (h : ∀ (j : Nat) (g : Fr), F[j]? = some g → g.page ≠ x) : ∀ (j : Nat) (g : Fr), G[j]? = some g → g.page ≠ x := by
  intro j g hg e
  have h1 : (G.map Fr.page)[j]? = some g.page := by rw [List.getElem?_map, hg]; rfl
  rw [hp, List.getElem?_map] at h1
  rcases e2 : F[j]? with _ | f'
  · rw [e2] at h1
    cases h1
  · rw [e2] at h1
    exact h j f' e2 ((Option.some.inj h1).trans e)
theorem Unlike.hold {c : CS} (h : Unlike c.F) (x : Int) : Unlike (holdR c x).1.F := by
  unfold holdR
  split
  · exact h
  · split
    · exact unlike_same h (modify_pages _ _ _ fun _ => rfl)
    · rename_i hf
      split
      · exact unlike_set h _ _ fun j g hg => findF_none hf j g hg
      · split
        · rename_i e
          have hp := sweep_pages _ _ _ _ _ _ e
          exact unlike_set (unlike_same h hp) _ _ fun j g hg => no_page hp (findF_none hf) j g hg
        · exact h
theorem Unlike.drop {c : CS} (h : Unlike c.F) (x : Int) : Unlike (dropR c x).1.F := by
  unfold dropR
  split
  · exact h
  · split
    · exact unlike_same h (modify_pages _ _ _ fun _ => rfl)
    · exact h
theorem Unlike.new (n k : Nat) : Unlike (newC n k).F := fun i j f g hf _ h0 _ => by
  have h1 := List.eq_of_mem_replicate (List.mem_of_getElem? hf)
  rw [h1] at h0
  exact absurd h0 (by decide)

/-- once nothing is held, the hand finds a frame. -/
theorem sweep_finds : ∀ (d k : Nat) (F : List Fr) (h : Nat), h < F.length → (∀ f ∈ F, f.held = 0) → (∃ f, F[(h + d) % F.length]? = some f ∧ f.mark = false) → d < k → sweep k F h ≠ none
  | d, 0, _, _, _, _, _, hk => absurd hk (Nat.not_lt_zero d)
  | d, k + 1, F, h, hl, h0, ⟨f, hf, hm⟩, hk => by
    unfold sweep
    split
    · simp
    · rename_i hfree
      have hn : nextH F.length h = (h + 1) % F.length := by
        unfold nextH
        split
        · rename_i e
          rw [e, Nat.mod_self]
        · rw [Nat.mod_eq_of_lt (by omega)]
      match d with
      | 0 =>
        rw [Nat.add_zero, Nat.mod_eq_of_lt hl] at hf
        exfalso
        apply hfree
        unfold freeF
        rw [hf]
        simp [h0 f (List.mem_of_getElem? hf), hm]
      | d + 1 =>
        refine sweep_finds d k _ _ (by rw [clearF_length]; exact nextH_lt hl) (fun g hg => ?_) ?_ (by omega)
        · have := clearF_held (m := 0) (fun g hg => by rw [h0 g hg]; exact Nat.le_refl 0) h g hg
          omega
        · rw [clearF_length, hn]
          have e1 : ((h + 1) % F.length + d) % F.length = (h + (d + 1)) % F.length := by rw [Nat.mod_add_mod]; congr 1; omega
          rw [e1]
          obtain ⟨f0, hf0⟩ : ∃ f0, F[h]? = some f0 := ⟨_, List.getElem?_eq_getElem hl⟩
          unfold clearF
          rw [hf0]
          simp only [h0 f0 (List.mem_of_getElem? hf0), if_true]
          rw [List.getElem?_set]
          by_cases e : h = (h + (d + 1)) % F.length
          · rw [if_pos e, if_pos hl]
            exact ⟨_, rfl, rfl⟩
          · rw [if_neg e]
            exact ⟨f, hf, hm⟩
end Go.Proofs.YtjmajminfmcjcaaDoor

namespace Go.Proofs.YtjmajminfmcjcaaDoor
open Go.RowKit

theorem heldF_is {F : List Fr} (hU : Unlike F) {p : Int} (hp : 0 ≤ p) {i : Nat} {f : Fr} (hi : F[i]? = some f) (hf : f.page = p) : heldF F p = f.held := by
  unfold heldF
  rcases e : findF F p with _ | j
  · exact absurd hf (findF_none e i f hi)
  · obtain ⟨g, hg, hgp, _⟩ := findF_some e
    have hij : i = j := hU i j f g hi hg (by omega) (by omega)
    subst hij
    simp [hi]
theorem heldF_no {F : List Fr} {p : Int} (h : ∀ (j : Nat) (g : Fr), F[j]? = some g → g.page ≠ p) : heldF F p = 0 := by
  unfold heldF
  rw [findF_no h]
theorem heldF_set {F : List Fr} (hU : Unlike F) {i : Nat} {f : Fr} (hi : F[i]? = some f) (hf : f.held = 0) {x : Int} (hx : 0 ≤ x) (hn : ∀ (j : Nat) (g : Fr), F[j]? = some g → g.page ≠ x) {p : Int} (hp : 0 ≤ p) :
    heldF (F.set i ⟨x, 1, true⟩) p = heldF F p + if p = x then 1 else 0 := by
  have hil := (List.getElem?_eq_some_iff.1 hi).1
  have hU2 : Unlike (F.set i ⟨x, 1, true⟩) := unlike_set hU i ⟨x, 1, true⟩ hn
  by_cases e : p = x
  · subst e
    rw [heldF_is hU2 hp (i := i) (f := ⟨p, 1, true⟩) (List.getElem?_set_self hil) rfl, heldF_no hn, if_pos rfl]
  · rw [if_neg e]
    have other : ∀ (a : Nat) (q : Fr), (F.set i ⟨x, 1, true⟩)[a]? = some q → q.page = p → a ≠ i ∧ F[a]? = some q := by
      intro a q hq hqp
      rw [List.getElem?_set] at hq
      by_cases ea : i = a
      · rw [if_pos ea, if_pos hil] at hq
        cases hq
        exact absurd hqp.symm e
      · rw [if_neg ea] at hq
        exact ⟨fun h => ea h.symm, hq⟩
    rcases hff : findF F p with _ | j
    · rw [heldF_no (findF_none hff), heldF_no fun a q hq hqp => findF_none hff a q (other a q hq hqp).2 hqp]
    · obtain ⟨g, hg, hgp, _⟩ := findF_some hff
      by_cases ej : j = i
      · subst ej
        rw [hi] at hg
        cases hg
        rw [heldF_is hU hp hi hgp, hf]
        rw [heldF_no fun a q hq hqp => ?_]
        obtain ⟨h1, h2⟩ := other a q hq hqp
        exact h1 (hU a j q f h2 hi (by omega) (by omega))
      · rw [heldF_is hU hp hg hgp, heldF_is hU2 hp (i := j) (f := g) (by rw [List.getElem?_set, if_neg (fun h => ej h.symm)]; exact hg) hgp, Nat.add_zero]
theorem clearF_helds (F : List Fr) (h : Nat) : (clearF F h).map Fr.held = F.map Fr.held := by
  unfold clearF
  split
  · rename_i f e
    split
    · apply List.ext_getElem?
      intro j
      rw [List.getElem?_map, List.getElem?_map, List.getElem?_set]
      by_cases e2 : h = j
      · rw [if_pos e2, if_pos (List.getElem?_eq_some_iff.1 e).1, ← e2, e]
        rfl
      · rw [if_neg e2]
    · rfl
  · rfl
theorem sweep_helds : ∀ (k : Nat) (F : List Fr) (h i : Nat) (F' : List Fr) (h' : Nat), sweep k F h = some (i, F', h') → F'.map Fr.held = F.map Fr.held ∧ ∃ f, F'[i]? = some f ∧ f.held = 0
  | 0, _, _, _, _, _, e => by cases e
  | k + 1, F, h, i, F', h', e => by
    unfold sweep at e
    split at e
    · rename_i hf
      cases e
      refine ⟨rfl, ?_⟩
      unfold freeF at hf
      split at hf
      · rename_i f e
        simp at hf
        exact ⟨f, e, hf.1⟩
      · cases hf
    · obtain ⟨h1, h2⟩ := sweep_helds k _ _ _ _ _ e
      exact ⟨h1.trans (clearF_helds F h), h2⟩
theorem heldF_same {F G : List Fr} (hU : Unlike F) (hp : G.map Fr.page = F.map Fr.page) (hh : G.map Fr.held = F.map Fr.held) {p : Int} (h0 : 0 ≤ p) : heldF G p = heldF F p := by
  rcases hff : findF F p with _ | j
  · rw [heldF_no (findF_none hff), heldF_no (no_page hp (findF_none hff))]
  · obtain ⟨f, hf, hfp, _⟩ := findF_some hff
    have h1 : (F.map Fr.page)[j]? = some f.page := by rw [List.getElem?_map, hf]; rfl
    have h2 : (F.map Fr.held)[j]? = some f.held := by rw [List.getElem?_map, hf]; rfl
    rw [← hp, List.getElem?_map] at h1
    rw [← hh, List.getElem?_map] at h2
    rcases e : G[j]? with _ | g
    · rw [e] at h1
      cases h1
    · rw [e] at h1 h2
      have e1 : g.page = f.page := Option.some.inj h1
      have e2 : g.held = f.held := Option.some.inj h2
      rw [heldF_is hU h0 hf hfp, heldF_is (unlike_same hU hp) h0 e (by omega), e2]
/-- a frame is held once more, or once less. -/
theorem heldF_modify {F : List Fr} (hU : Unlike F) {i : Nat} {f : Fr} (hi : F[i]? = some f) (t : Fr → Fr) (ht : ∀ f, (t f).page = f.page) {p : Int} (hp : 0 ≤ p) :
    heldF (F.modify i t) p = if p = f.page then (t f).held else heldF F p := by
  have hpg := modify_pages F i t ht
  have hU2 := unlike_same hU hpg
  by_cases e : p = f.page
  · rw [if_pos e, heldF_is hU2 hp (i := i) (f := t f) (by rw [List.getElem?_modify, hi]; simp) (by rw [ht]; exact e.symm)]
  · rw [if_neg e]
    rcases hff : findF F p with _ | j
    · rw [heldF_no (findF_none hff), heldF_no (no_page hpg (findF_none hff))]
    · obtain ⟨g, hg, hgp, _⟩ := findF_some hff
      have hij : i ≠ j := fun h => by
        rw [← h, hi] at hg
        cases hg
        exact e hgp.symm
      rw [heldF_is hU hp hg hgp, heldF_is hU2 hp (i := j) (f := g) (by rw [List.getElem?_modify, hg]; simp [hij]) hgp]
theorem heldF_hold {c : CS} (hU : Unlike c.F) (hE : ∀ f ∈ c.F, f.page = -1 → f.held = 0) (x : Int) {p : Int} (hp : 0 ≤ p) : heldF (holdR c x).1.F p = heldF c.F p + if p = x ∧ (holdR c x).2.2 = 0 then 1 else 0 := by
  unfold holdR
  split
  · simp
  · rename_i hx
    have hx0 : 0 ≤ x := by omega
    split
    · rename_i i hf
      obtain ⟨f, hi, hfp, _⟩ := findF_some hf
      show heldF (c.F.modify i _) p = _
      rw [heldF_modify hU hi (fun f => { f with held := f.held + 1, mark := true }) (fun _ => rfl) hp]
      by_cases e : p = x
      · subst e
        rw [if_pos hfp.symm, heldF_is hU hp hi hfp]
        simp
      · rw [if_neg (by omega)]
        simp [e]
    · rename_i hf
      split
      · rename_i i he
        obtain ⟨f, hi, hfp, _⟩ := findF_some he
        show heldF (c.F.set i _) p = _
        rw [heldF_set hU hi (hE f (List.mem_of_getElem? hi) hfp) hx0 (findF_none hf) hp]
        simp
      · split
        · rename_i e
          have hpg := sweep_pages _ _ _ _ _ _ e
          obtain ⟨hhd, f, hi, hf0⟩ := sweep_helds _ _ _ _ _ _ e
          show heldF (List.set _ _ _) p = _
          rw [heldF_set (unlike_same hU hpg) hi hf0 hx0 (no_page hpg (findF_none hf)) hp, heldF_same hU hpg hhd hp]
          simp
        · simp
theorem heldF_drop {c : CS} (hU : Unlike c.F) (x : Int) {p : Int} (hp : 0 ≤ p) : heldF (dropR c x).1.F p = heldF c.F p - (if p = x then 1 else 0) := by
  unfold dropR
  split
  · rename_i h
    by_cases e : p = x
    · subst e
      rw [if_pos rfl]
      show heldF c.F p = _
      omega
    · rw [if_neg e]
      rfl
  · split
    · rename_i i hf
      obtain ⟨f, hi, hfp, _⟩ := findF_some hf
      show heldF (c.F.modify i _) p = _
      rw [heldF_modify hU hi (fun f => { f with held := f.held - 1 }) (fun _ => rfl) hp]
      by_cases e : p = x
      · subst e
        rw [if_pos hfp.symm, heldF_is hU hp hi hfp, if_pos rfl]
      · rw [if_neg (by omega), if_neg e]
        rfl
    · rename_i h _ hf
      exfalso
      apply h
      right
      unfold heldF
      rw [hf]
/-- an empty frame is not held. -/
def Idle (F : List Fr) : Prop := ∀ f ∈ F, f.page = -1 → f.held = 0
theorem idle_set {F : List Fr} (h : Idle F) (i : Nat) (f : Fr) (hf : f.page = -1 → f.held = 0) : Idle (F.set i f) := fun g hg => by
  rcases List.mem_or_eq_of_mem_set hg with h1 | rfl
  · exact h g h1
  · exact hf
theorem clearF_idle {F : List Fr} (h : Idle F) (i : Nat) : Idle (clearF F i) := by
  unfold clearF
  split
  · rename_i f e
    split
    · exact idle_set h _ _ fun hp => h f (List.mem_of_getElem? e) hp
    · exact h
  · exact h
theorem sweep_idle : ∀ (k : Nat) (F : List Fr) (h i : Nat) (F' : List Fr) (h' : Nat), sweep k F h = some (i, F', h') → Idle F → Idle F'
  | 0, _, _, _, _, _, e, _ => by cases e
  | k + 1, F, h, i, F', h', e, hI => by
    unfold sweep at e
    split at e
    · cases e
      exact hI
    · exact sweep_idle k _ _ _ _ _ e (clearF_idle hI h)
theorem Idle.hold {c : CS} (h : Idle c.F) (x : Int) : Idle (holdR c x).1.F := by
  unfold holdR
  split
  · exact h
  · rename_i hx
    split
    · rename_i i hf
      obtain ⟨f, hi, hfp, _⟩ := findF_some hf
      show Idle (c.F.modify i _)
      intro g hg hp
      obtain ⟨j, hj, rfl⟩ := List.getElem_of_mem hg
      rw [List.length_modify] at hj
      rw [List.getElem_modify] at hp ⊢
      by_cases e : i = j
      · subst e
        rw [if_pos rfl] at hp
        have e2 : c.F[i] = f := (List.getElem?_eq_some_iff.1 hi).2
        have h3 : (c.F[i]).page = -1 := hp
        rw [e2] at h3
        omega
      · rw [if_neg e] at hp ⊢
        exact h _ (List.getElem_mem hj) hp
    · split
      · exact idle_set h _ _ fun hp => by have h3 : x = -1 := hp; omega
      · split
        · rename_i e
          exact idle_set (sweep_idle _ _ _ _ _ _ e h) _ _ fun hp => by have h3 : x = -1 := hp; omega
        · exact h
theorem Idle.drop {c : CS} (h : Idle c.F) (x : Int) : Idle (dropR c x).1.F := by
  unfold dropR
  split
  · exact h
  · split
    · rename_i i hf
      show Idle (c.F.modify i _)
      intro g hg hp
      obtain ⟨j, hj, rfl⟩ := List.getElem_of_mem hg
      rw [List.length_modify] at hj
      rw [List.getElem_modify] at hp ⊢
      by_cases e : i = j
      · rw [if_pos e] at hp ⊢
        have h3 := h _ (List.getElem_mem hj) hp
        show c.F[j].held - 1 = 0
        omega
      · rw [if_neg e] at hp ⊢
        exact h _ (List.getElem_mem hj) hp
    · exact h
theorem Idle.new (n k : Nat) : Idle (newC n k).F := fun f hf _ => by
  have h := List.eq_of_mem_replicate hf
  rw [h]
/-- a page that is held is there. -/
theorem held_there {F : List Fr} {p : Int} (h : 0 < heldF F p) : (findF F p).isSome = true := by
  unfold heldF at h
  split at h
  · rename_i e
    rw [e]
    rfl
  · omega
/-- once nothing is held, the hand finds a frame within a round and one step. -/
theorem sweep_all {k : Nat} {F : List Fr} {h : Nat} (hl : h < F.length) (h0 : ∀ f ∈ F, f.held = 0) (hk : F.length < k) : sweep k F h ≠ none := by
  obtain ⟨m, rfl⟩ : ∃ m, k = m + 1 := ⟨k - 1, by omega⟩
  unfold sweep
  split
  · simp
  · obtain ⟨f0, hf0⟩ : ∃ f0, F[h]? = some f0 := ⟨_, List.getElem?_eq_getElem hl⟩
    refine sweep_finds (F.length - 1) m _ _ (by rw [clearF_length]; exact nextH_lt hl) (fun g hg => ?_) ?_ (by omega)
    · have := clearF_held (m := 0) (fun g hg => by rw [h0 g hg]; exact Nat.le_refl 0) h g hg
      omega
    · have e1 : (nextH F.length h + (F.length - 1)) % F.length = h := by
        unfold nextH
        split
        · rw [Nat.mod_eq_of_lt (by omega)]
          omega
        · rw [show h + 1 + (F.length - 1) = h + F.length by omega, Nat.add_mod_right, Nat.mod_eq_of_lt hl]
      rw [clearF_length, e1]
      unfold clearF
      rw [hf0]
      simp only [h0 f0 (List.mem_of_getElem? hf0), if_true]
      rw [List.getElem?_set_self hl]
      exact ⟨_, rfl, rfl⟩
/-- nothing held: each page of the image can be had. -/
theorem hold_ok {c : CS} (hh : c.hand < c.F.length) (h0 : ∀ f ∈ c.F, f.held = 0) {x : Int} (hx : ¬ (x < 0 ∨ (c.n : Int) ≤ x)) : (holdR c x).2.2 = 0 := by
  unfold holdR
  rw [if_neg hx]
  split
  · rfl
  · split
    · rfl
    · split
      · rfl
      · rename_i e
        exact absurd e (sweep_all hh h0 (by omega))
/-- the page is there behind a Hold that came to something. -/
theorem hold_there {c : CS} {x : Int} (h : (holdR c x).2.2 = 0) (hU : Unlike c.F) (hI : Idle c.F) (hx : 0 ≤ x) : 0 < heldF (holdR c x).1.F x := by
  rw [heldF_hold hU hI x hx, if_pos ⟨rfl, h⟩]
  omega
end Go.Proofs.YtjmajminfmcjcaaDoor

namespace Go.Proofs.YtjmajminfmcjcaaDoor
open Go.RowKit

theorem heldF_cons (f : Fr) (F : List Fr) (p : Int) : heldF (f :: F) p = if f.page = p then f.held else heldF F p := by
  unfold heldF findF
  rw [List.findIdx?_cons]
  by_cases e : f.page = p
  · simp [e]
  · rw [if_neg e]
    have e2 : (f.page == p) = false := by simpa using e
    simp only [e2, Bool.false_eq_true, if_false]
    cases List.findIdx? (fun f => f.page == p) F <;> simp
theorem countP_point {P Q : Nat → Bool} {q : Nat} (hP : P q = false) (hQ : Q q = true) (h : ∀ p, p ≠ q → Q p = P p) : ∀ N, (List.range N).countP Q = (List.range N).countP P + if q < N then 1 else 0
  | 0 => rfl
  | N + 1 => by
    rw [List.range_succ, List.countP_append, List.countP_append, countP_point hP hQ h N]
    by_cases e : N = q
    · subst e
      simp [hP, hQ]
    · simp only [List.countP_singleton, h N e]
      by_cases e2 : q < N
      · rw [if_pos e2, if_pos (show q < N + 1 by omega)]
        omega
      · rw [if_neg e2, if_neg (show ¬ q < N + 1 by omega)]
        omega
theorem Unlike.tail {f : Fr} {F : List Fr} (h : Unlike (f :: F)) : Unlike F := fun i j a b ha hb h0 he => by
  have := h (i + 1) (j + 1) a b (by simpa using ha) (by simpa using hb) h0 he
  omega
theorem Unlike.head {f : Fr} {F : List Fr} (h : Unlike (f :: F)) (h0 : 0 ≤ f.page) : ∀ (j : Nat) (g : Fr), F[j]? = some g → g.page ≠ f.page := fun j g hg e => by
  have := h 0 (j + 1) f g rfl (by simpa using hg) h0 e.symm
  omega
/-- as many frames are held as pages. -/
theorem pinned_pages (N : Nat) : ∀ F : List Fr, Unlike F → Idle F → (∀ f ∈ F, f.page = -1 ∨ (0 ≤ f.page ∧ f.page < (N : Int))) → pinnedN F = (List.range N).countP fun (p : Nat) => decide (0 < heldF F (p : Int))
  | [], _, _, _ => by
    symm
    rw [show pinnedN [] = 0 from rfl, List.countP_eq_zero]
    intro p _
    have h : heldF [] (p : Int) = 0 := rfl
    simp [h]
  | f :: F, hU, hI, hP => by
    have ih := pinned_pages N F hU.tail (fun g hg => hI g (List.mem_cons_of_mem _ hg)) (fun g hg => hP g (List.mem_cons_of_mem _ hg))
    have hf := hP f List.mem_cons_self
    unfold pinnedN at ih ⊢
    rw [List.countP_cons, ih]
    by_cases hh : 0 < f.held
    · have h1 : f.page ≠ -1 := fun e => by have := hI f List.mem_cons_self e; omega
      obtain ⟨q, hq⟩ : ∃ q : Nat, f.page = (q : Int) := ⟨f.page.toNat, by omega⟩
      have hno : heldF F (q : Int) = 0 := heldF_no fun j g hg => by
        have := hU.head (by omega) j g hg
        omega
      rw [countP_point (P := fun (p : Nat) => decide (0 < heldF F (p : Int))) (Q := fun (p : Nat) => decide (0 < heldF (f :: F) (p : Int))) (q := q) (by simp [hno]) (by simp [heldF_cons, hq, hh]) (fun p hp => by
        have : ¬ f.page = (p : Int) := by omega
        simp [heldF_cons, this]) N]
      rw [if_pos (show q < N by omega)]
      simp [hh]
    · simp only [hh, decide_false, Bool.false_eq_true, if_false, Nat.add_zero]
      apply List.countP_congr
      intro p _
      rw [heldF_cons]
      by_cases e : f.page = (p : Int)
      · have hno : heldF F (p : Int) = 0 := heldF_no fun j g hg => by
          have := hU.head (by omega) j g hg
          omega
        rw [if_pos e, hno]
        simp [hh]
      · rw [if_neg e]
/-- as many frames as pages, none empty: each page is there. -/
theorem all_there {F : List Fr} {N : Nat} (hU : Unlike F) (hP : ∀ f ∈ F, 0 ≤ f.page ∧ f.page < (N : Int)) (hN : N ≤ F.length) {x : Nat} (hx : x < N) : findF F (x : Int) ≠ none := by
  intro hf
  obtain ⟨G, hG⟩ : ∃ G, F.map (fun f => (⟨f.page, 1, f.mark⟩ : Fr)) = G := ⟨_, rfl⟩
  have hpg : G.map Fr.page = F.map Fr.page := by rw [← hG, List.map_map]; rfl
  have hmem : ∀ g ∈ G, (0 ≤ g.page ∧ g.page < (N : Int)) ∧ g.held = 1 := by
    intro g hg
    rw [← hG, List.mem_map] at hg
    obtain ⟨f, h1, rfl⟩ := hg
    exact ⟨hP f h1, rfl⟩
  have h1 := pinned_pages N G (unlike_same hU hpg) (fun g hg e => by have := (hmem g hg).1.1; omega) (fun g hg => .inr (hmem g hg).1)
  have h2 : pinnedN G = F.length := by
    unfold pinnedN
    rw [List.countP_eq_length.2 (fun g hg => by simp [(hmem g hg).2]), ← hG, List.length_map]
  have h3 : heldF G (x : Int) = 0 := heldF_no (no_page hpg (findF_none hf))
  have h4 := countP_point (P := fun (p : Nat) => decide (0 < heldF G (p : Int))) (Q := fun (p : Nat) => decide (0 < heldF G (p : Int)) || p == x) (q := x) (by simp [h3]) (by simp) (fun p hp => by simp [hp]) N
  rw [if_pos hx, ← h1, h2] at h4
  have h5 : (List.range N).countP (fun (p : Nat) => decide (0 < heldF G (p : Int)) || p == x) ≤ N := Nat.le_trans List.countP_le_length (by rw [List.length_range]; exact Nat.le_refl N)
  omega
/-- the pages of the frames are pages of the image, or none. -/
def Paged (F : List Fr) (n : Nat) : Prop := ∀ f ∈ F, f.page = -1 ∨ (0 ≤ f.page ∧ f.page < (n : Int))
theorem paged_same {F G : List Fr} {n : Nat} (h : Paged F n) (hp : G.map Fr.page = F.map Fr.page) : Paged G n := fun g hg => by
  have h1 : g.page ∈ G.map Fr.page := List.mem_map.2 ⟨g, hg, rfl⟩
  rw [hp, List.mem_map] at h1
  obtain ⟨f, hf, e⟩ := h1
  rw [← e]
  exact h f hf
theorem paged_set {F : List Fr} {n : Nat} (h : Paged F n) (i : Nat) (f : Fr) (hf : 0 ≤ f.page ∧ f.page < (n : Int)) : Paged (F.set i f) n := fun g hg => by
  rcases List.mem_or_eq_of_mem_set hg with h1 | rfl
  · exact h g h1
  · exact .inr hf
theorem Paged.hold {c : CS} (h : Paged c.F c.n) (x : Int) : Paged (holdR c x).1.F c.n := by
  unfold holdR
  split
  · exact h
  · rename_i hx
    split
    · exact paged_same h (modify_pages _ _ _ fun _ => rfl)
    · split
      · exact paged_set h _ _ ⟨by show 0 ≤ x; omega, by show x < (c.n : Int); omega⟩
      · split
        · rename_i e
          exact paged_set (paged_same h (sweep_pages _ _ _ _ _ _ e)) _ _ ⟨by show 0 ≤ x; omega, by show x < (c.n : Int); omega⟩
        · exact h
theorem Paged.drop {c : CS} (h : Paged c.F c.n) (x : Int) : Paged (dropR c x).1.F c.n := by
  unfold dropR
  split
  · exact h
  · split
    · exact paged_same h (modify_pages _ _ _ fun _ => rfl)
    · exact h
theorem Paged.new (n k : Nat) : Paged (newC n k).F n := fun f hf => by
  have h := List.eq_of_mem_replicate hf
  rw [h]
  exact .inl rfl
/-- as many frames as pages: no page is ever given up. -/
theorem keeps_all {c : CS} (hU : Unlike c.F) (hP : Paged c.F c.n) (hN : c.n ≤ c.F.length) (x : Int) {p : Int} (hp : (findF c.F p).isSome = true) (h0 : 0 ≤ p) : (findF (holdR c x).1.F p).isSome = true := by
  have key : ∀ G : List Fr, G.map Fr.page = c.F.map Fr.page → (findF G p).isSome = true := by
    intro G hG
    rcases e : findF G p with _ | i
    · obtain ⟨j, hj⟩ := Option.isSome_iff_exists.1 hp
      obtain ⟨f, hf, hfp, _⟩ := findF_some hj
      exact absurd hfp (no_page hG.symm (findF_none e) j f hf)
    · rfl
  have keep : ∀ (i : Nat) (f f' : Fr), c.F[i]? = some f → f.page ≠ p → (findF (c.F.set i f') p).isSome = true := by
    intro i f f' hi hne
    obtain ⟨j, hj⟩ := Option.isSome_iff_exists.1 hp
    obtain ⟨g, hg, hgp, _⟩ := findF_some hj
    have hij : i ≠ j := fun h => by
      subst h
      rw [hi] at hg
      cases hg
      exact hne hgp
    rcases e : findF (c.F.set i f') p with _ | a
    · exact absurd hgp (findF_none e j g (by rw [List.getElem?_set, if_neg hij]; exact hg))
    · rfl
  unfold holdR
  split
  · exact hp
  · rename_i hx
    split
    · exact key _ (modify_pages _ _ _ fun _ => rfl)
    · rename_i hf
      split
      · rename_i i he
        obtain ⟨f, hi, hfp, _⟩ := findF_some he
        exact keep i f _ hi (by omega)
      · rename_i he
        exfalso
        obtain ⟨q, hq⟩ : ∃ q : Nat, x = (q : Int) := ⟨x.toNat, by omega⟩
        refine all_there hU (N := c.n) (fun f hff => ?_) hN (x := q) (by omega) (hq ▸ hf)
        rcases hP f hff with h1 | h1
        · obtain ⟨j, hj, e2⟩ := List.getElem_of_mem hff
          exact absurd h1 (findF_none he j f (by rw [List.getElem?_eq_getElem hj, e2]))
        · exact h1
end Go.Proofs.YtjmajminfmcjcaaDoor

namespace Go.Proofs.YtjmajminfmcjcaaDoor

theorem nextH_mod {len h : Nat} (hl : h < len) : nextH len h = (h + 1) % len := by
  unfold nextH
  split
  · rename_i e
    rw [e, Nat.mod_self]
  · rw [Nat.mod_eq_of_lt (by omega)]
theorem clearF_stays {F : List Fr} {h j : Nat} {f : Fr} (hf : F[j]? = some f) (h0 : f.held = 0) : ∃ f', (clearF F h)[j]? = some f' ∧ f'.held = 0 ∧ (h = j ∨ f.mark = false → f'.mark = false) := by
  have hjl := (List.getElem?_eq_some_iff.1 hf).1
  unfold clearF
  split
  · rename_i g hg
    split
    · rename_i hg0
      rw [List.getElem?_set]
      by_cases e : h = j
      · rw [if_pos e, if_pos (by omega)]
        exact ⟨_, rfl, hg0, fun _ => rfl⟩
      · rw [if_neg e]
        exact ⟨f, hf, h0, fun h => h.resolve_left e⟩
    · rename_i hg0
      refine ⟨f, hf, h0, fun h => ?_⟩
      rcases h with rfl | h
      · rw [hg] at hf
        cases hf
        exact absurd h0 hg0
      · exact h
  · rename_i hg
    refine ⟨f, hf, h0, fun h => ?_⟩
    rcases h with rfl | h
    · rw [hg] at hf
      cases hf
    · exact h
theorem sweep_at : ∀ (d k : Nat) (F : List Fr) (h : Nat), h < F.length → (∃ f, F[(h + d) % F.length]? = some f ∧ f.held = 0 ∧ f.mark = false) → d < k → sweep k F h ≠ none
  | d, 0, _, _, _, _, hk => absurd hk (Nat.not_lt_zero d)
  | d, k + 1, F, h, hl, ⟨f, hf, h0, hm⟩, hk => by
    unfold sweep
    split
    · simp
    · rename_i hfree
      match d with
      | 0 =>
        rw [Nat.add_zero, Nat.mod_eq_of_lt hl] at hf
        exfalso
        apply hfree
        unfold freeF
        rw [hf]
        simp [h0, hm]
      | d + 1 =>
        refine sweep_at d k _ _ (by rw [clearF_length]; exact nextH_lt hl) ?_ (by omega)
        rw [clearF_length, nextH_mod hl]
        have e1 : ((h + 1) % F.length + d) % F.length = (h + (d + 1)) % F.length := by rw [Nat.mod_add_mod]; congr 1; omega
        rw [e1]
        obtain ⟨f', h1, h2, h3⟩ := clearF_stays (h := h) hf h0
        exact ⟨f', h1, h2, h3 (.inr hm)⟩
theorem sweep_two : ∀ (d k : Nat) (F : List Fr) (h : Nat), h < F.length → (∃ f, F[(h + d) % F.length]? = some f ∧ f.held = 0) → d + F.length < k → sweep k F h ≠ none
  | d, 0, _, _, _, _, hk => absurd hk (Nat.not_lt_zero _)
  | d, k + 1, F, h, hl, ⟨f, hf, h0⟩, hk => by
    unfold sweep
    split
    · simp
    · obtain ⟨f', h1, h2, h3⟩ := clearF_stays (h := h) hf h0
      match d with
      | 0 =>
        rw [Nat.add_zero, Nat.mod_eq_of_lt hl] at h1 h3
        refine sweep_at (F.length - 1) k _ _ (by rw [clearF_length]; exact nextH_lt hl) ⟨f', ?_, h2, h3 (.inl rfl)⟩ (by omega)
        rw [clearF_length, nextH_mod hl, Nat.mod_add_mod, show h + 1 + (F.length - 1) = h + F.length by omega, Nat.add_mod_right, Nat.mod_eq_of_lt hl]
        exact h1
      | d + 1 =>
        refine sweep_two d k _ _ (by rw [clearF_length]; exact nextH_lt hl) ⟨f', ?_, h2⟩ (by rw [clearF_length]; omega)
        rw [clearF_length, nextH_mod hl, Nat.mod_add_mod, show h + 1 + d = h + (d + 1) by omega]
        exact h1
theorem none_held {F : List Fr} {h : Nat} (hl : h < F.length) (hn : sweep (2 * F.length) F h = none) : ∀ f ∈ F, f.held ≠ 0 := fun f hf h0 => by
  obtain ⟨j, hj, rfl⟩ := List.getElem_of_mem hf
  refine sweep_two ((j + F.length - h) % F.length) _ F h hl ⟨F[j], ?_, h0⟩ ?_ hn
  · rw [Nat.add_mod_mod, show h + (j + F.length - h) = j + F.length by omega, Nat.add_mod_right, Nat.mod_eq_of_lt hj]
    exact List.getElem?_eq_getElem hj
  · have := Nat.mod_lt (j + F.length - h) (show F.length > 0 by omega)
    omega
theorem clearF_all {F : List Fr} (h : ∀ f ∈ F, f.held ≠ 0) (i : Nat) : clearF F i = F := by
  unfold clearF
  split
  · rename_i f hf
    rw [if_neg (h f (List.mem_of_getElem? hf))]
  · rfl
theorem sweepN_step {F : List Fr} {h m : Nat} (hf : freeF F h = false) : sweep (m + 1) F h = sweep m (clearF F h) (nextH F.length h) := by
  conv => lhs; unfold sweep
  rw [hf]
  rfl
theorem sweepN_stop {F : List Fr} {h m : Nat} (hf : freeF F h = true) : sweep (m + 1) F h = some (h, F, nextH F.length h) := by
  conv => lhs; unfold sweep
  rw [hf]
  rfl
end Go.Proofs.YtjmajminfmcjcaaDoor

namespace Go.Proofs.YtjmajminfmcjcaaDoor

theorem hold_counts {c : CS} {x : Int} (h : (holdR c x).2.2 = 0) : (holdR c x).1.hits + (holdR c x).1.misses = c.hits + c.misses + 1 ∧ ((holdR c x).2.1 = true → (holdR c x).1.misses = c.misses ∧ (findF c.F x).isSome = true) ∧ ((holdR c x).2.1 = false → (holdR c x).1.misses = c.misses + 1 ∧ findF c.F x = none) := by
  unfold holdR at h ⊢
  split
  · rename_i hx
    rw [if_pos hx] at h
    cases h
  · rename_i hx
    rw [if_neg hx] at h
    split
    · rename_i i e
      refine ⟨by show c.hits + 1 + c.misses = _; omega, fun _ => ⟨rfl, by rw [e]; rfl⟩, fun e => (by cases e)⟩
    · rename_i e
      rw [e] at h
      dsimp only at h
      split
      · exact ⟨by show c.hits + (c.misses + 1) = _; omega, fun e => (by cases e), fun _ => ⟨rfl, e⟩⟩
      · rename_i e2
        rw [e2] at h
        dsimp only at h
        split
        · exact ⟨by show c.hits + (c.misses + 1) = _; omega, fun e => (by cases e), fun _ => ⟨rfl, e⟩⟩
        · rename_i e3
          rw [e3] at h
          cases h
theorem drop_true {c : CS} {x : Int} (h0 : 0 ≤ x) (h : 0 < heldF c.F x) : (dropR c x).2 = true := by
  have hs := held_there h
  unfold dropR
  rw [if_neg (by omega)]
  split
  · rfl
  · rename_i e
    rw [e] at hs
    cases hs
theorem dropR_pages (c : CS) (x : Int) : (dropR c x).1.F.map Fr.page = c.F.map Fr.page := by
  unfold dropR
  split
  · rfl
  · split
    · exact modify_pages _ _ _ fun _ => rfl
    · rfl
theorem find_same {F G : List Fr} (hp : G.map Fr.page = F.map Fr.page) (x : Int) : (findF G x).isSome = (findF F x).isSome := by
  rcases h : findF F x with _ | i
  · rw [findF_no (no_page hp (findF_none h))]
  · rcases h2 : findF G x with _ | j
    · rw [findF_no (no_page hp.symm (findF_none h2))] at h
      cases h
    · rfl
/-- which pages are there behind a Hold. -/
theorem hold_pages {c : CS} {x : Int} : ∀ f ∈ (holdR c x).1.F, f.page = x ∨ ∃ g ∈ c.F, g.page = f.page := by
  have old : ∀ {F : List Fr}, F.map Fr.page = c.F.map Fr.page → ∀ f ∈ F, f.page = x ∨ ∃ g ∈ c.F, g.page = f.page := fun {F} hp f hf => .inr (by
    have h1 : f.page ∈ F.map Fr.page := List.mem_map_of_mem hf
    rw [hp] at h1
    obtain ⟨g, hg, e⟩ := List.mem_map.1 h1
    exact ⟨g, hg, e⟩)
  have put : ∀ {F : List Fr} (i : Nat), F.map Fr.page = c.F.map Fr.page → ∀ f ∈ F.set i ⟨x, 1, true⟩, f.page = x ∨ ∃ g ∈ c.F, g.page = f.page := fun {F} i hp f hf => by
    rcases List.mem_or_eq_of_mem_set hf with h | rfl
    · exact old hp f h
    · exact .inl rfl
  intro f hf
  unfold holdR at hf
  split at hf
  · exact old rfl f hf
  · split at hf
    · exact old (modify_pages c.F _ (fun f => { f with held := f.held + 1, mark := true }) fun _ => rfl) f hf
    · split at hf
      · exact put _ rfl f hf
      · split at hf
        · rename_i e
          exact put _ (sweep_pages _ _ _ _ _ _ e) f hf
        · exact old rfl f hf
/-- the hand stays within the round. -/
theorem pinned_zero {F : List Fr} (h : ∀ f ∈ F, f.held = 0) : pinnedN F = 0 := by
  unfold pinnedN
  rw [List.countP_eq_zero]
  intro f hf
  simp [h f hf]
/-- held once and dropped: nothing is held, as before. -/
theorem hold_drop_zero {c : CS} {x : Int} (hU : Unlike c.F) (hI : Idle c.F) (hP : Paged c.F c.n) (h0 : ∀ f ∈ c.F, f.held = 0) : ∀ f ∈ (dropR (holdR c x).1 x).1.F, f.held = 0 := fun f hf => by
  have hU2 := (hU.hold x).drop (c := (holdR c x).1) x
  have hI2 := (hI.hold x).drop (c := (holdR c x).1) x
  have hP1 : Paged (holdR c x).1.F (holdR c x).1.n := by rw [holdR_n]; exact hP.hold x
  have hP2 := hP1.drop (c := (holdR c x).1) x
  rcases hP2 f hf with h | ⟨h, _⟩
  · exact hI2 f hf h
  · obtain ⟨i, hi, he⟩ := List.getElem_of_mem hf
    have h1 := heldF_is hU2 h (i := i) (by rw [List.getElem?_eq_getElem hi, he]) rfl
    rw [← h1, heldF_drop (hU.hold x) x h, heldF_hold hU (fun f hf he => hI f hf he) x h]
    have h2 : heldF c.F f.page = 0 := by
      unfold heldF
      rcases e : findF c.F f.page with _ | j
      · rfl
      · obtain ⟨g, hg, _⟩ := findF_some e
        show ((c.F[j]?).map Fr.held).getD 0 = 0
        rw [hg]
        exact h0 g (List.mem_of_getElem? hg)
    rw [h2]
    by_cases e : f.page = x
    · rw [if_pos e]
      split <;> omega
    · rw [if_neg (fun h => e h.1), if_neg e]
theorem paged_n {c : CS} {x : Int} (hP : Paged c.F c.n) : Paged (holdR c x).1.F (holdR c x).1.n := by rw [holdR_n]; exact hP.hold x

/-- what CacheCharges' loop keeps. -/
structure Charge (few : Bool) (c : CS) (S : Nat → Nat) (i m : Nat) : Prop where
  n : c.n = 10
  upto : Upto c i
  unlike : Unlike c.F
  idle : Idle c.F
  paged : Paged c.F c.n
  zero : ∀ f ∈ c.F, f.held = 0
  sum : c.hits + c.misses = i
  ge : m ≤ c.misses
  all : few = false → c.misses = m ∧ 10 ≤ c.F.length ∧ ∀ p : Nat, S p ≠ 0 → (findF c.F (p : Int)).isSome = true
  seen : ∀ f ∈ c.F, 0 ≤ f.page → S f.page.toNat ≠ 0
/-- page x is seen now. -/
def mark (S : Nat → Nat) (x : Nat) : Nat → Nat := fun j => if x = j then 1 else S j
theorem Charge.step {few : Bool} {c : CS} {S : Nat → Nat} {i m : Nat} (h : Charge few c S i m) (hh : c.hand < c.F.length) {x : Nat} (hx : x < 10) :
    (holdR c (x : Int)).2.2 = 0 ∧ (dropR (holdR c (x : Int)).1 (x : Int)).2 = true ∧ (S x = 0 → (holdR c (x : Int)).2.1 = false) ∧ Charge few (dropR (holdR c (x : Int)).1 (x : Int)).1 (mark S x) (i + 1) (if S x = 0 then m + 1 else m) := by
  have hr : ¬ ((x : Int) < 0 ∨ (c.n : Int) ≤ (x : Int)) := by have := h.n; omega
  have h0 := hold_ok hh h.zero hr
  have ht := hold_there h0 h.unlike h.idle (x := (x : Int)) (by omega)
  have hd := drop_true (c := (holdR c (x : Int)).1) (x := (x : Int)) (by omega) ht
  obtain ⟨k1, k2, k3⟩ := hold_counts h0
  obtain ⟨d1, d2, d3, d4⟩ := dropR_rest (holdR c (x : Int)).1 (x : Int)
  have hun : S x = 0 → findF c.F (x : Int) = none := fun e => findF_no fun j f hf ep => by
    have := h.seen f (List.mem_of_getElem? hf) (by omega)
    rw [ep, Int.toNat_natCast] at this
    exact this e
  have hmiss : S x = 0 → (holdR c (x : Int)).2.1 = false := fun e => by
    cases hb : (holdR c (x : Int)).2.1
    · rfl
    · have := (k2 hb).2
      rw [hun e] at this
      cases this
  refine ⟨h0, hd, hmiss, ⟨by rw [d1, holdR_n]; exact h.n, (h.upto.hold _).drop _, (h.unlike.hold _).drop _, (h.idle.hold _).drop _, ?_, hold_drop_zero h.unlike h.idle h.paged h.zero, ?_, ?_, fun hf => ?_, fun f hf h1 => ?_⟩⟩
  · exact (paged_n h.paged).drop (x : Int) |> fun h => by rw [d1]; exact h
  · rw [d2, d3, k1, h.sum]
  · rw [d3]
    have := h.ge
    split
    · rename_i e
      rw [(k3 (hmiss e)).1]
      omega
    · cases hb : (holdR c (x : Int)).2.1
      · rw [(k3 hb).1]; omega
      · rw [(k2 hb).1]; omega
  · obtain ⟨a1, a2, a3⟩ := h.all hf
    refine ⟨?_, by rw [dropR_length, holdR_length]; exact a2, fun p hp => ?_⟩
    · rw [d3]
      split
      · rename_i e
        rw [(k3 (hmiss e)).1, a1]
      · rename_i e
        have hs := a3 x e
        cases hb : (holdR c (x : Int)).2.1
        · rw [(k3 hb).2] at hs
          cases hs
        · rw [(k2 hb).1, a1]
    · rw [find_same (dropR_pages _ _)]
      by_cases e : x = p
      · subst e
        exact held_there ht
      · unfold mark at hp
        rw [if_neg e] at hp
        exact keeps_all h.unlike h.paged (by have := h.n; omega) _ (a3 p hp) (by omega)
  · have h2 : f.page ∈ (dropR (holdR c (x : Int)).1 (x : Int)).1.F.map Fr.page := List.mem_map_of_mem hf
    rw [dropR_pages] at h2
    obtain ⟨g, hg, e⟩ := List.mem_map.1 h2
    unfold mark
    rcases hold_pages g hg with e2 | ⟨g2, hg2, e2⟩
    · rw [if_pos (by omega)]
      decide
    · have := h.seen g2 hg2 (by omega)
      rw [e2, e] at this
      split
      · decide
      · exact this
theorem Charge.new (few : Bool) (k : Nat) (hk : few = false → 10 ≤ k) : Charge few (newC 10 k) (fun _ => 0) 0 0 where
  n := rfl
  upto := Upto.new _ _
  unlike := Unlike.new _ _
  idle := Idle.new _ _
  paged := Paged.new _ _
  zero := fun f hf => by
    have h := List.eq_of_mem_replicate hf
    rw [h]
  sum := rfl
  ge := Nat.le_refl _
  all := fun h => ⟨rfl, by show 10 ≤ (List.replicate k _).length; rw [List.length_replicate]; exact hk h, fun p hp => absurd rfl hp⟩
  seen := fun f hf h0 => by
    have h := List.eq_of_mem_replicate hf
    rw [h] at h0
    have h0 : (0 : Int) ≤ -1 := h0
    omega
end Go.Proofs.YtjmajminfmcjcaaDoor
