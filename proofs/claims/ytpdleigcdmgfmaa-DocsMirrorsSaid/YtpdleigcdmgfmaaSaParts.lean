/- The developers' package suffix: a row as it lies; fit, isDip, dips, onlyDips. slices.Equal and slices.Compare over ints, wherever they lie. The developers' suffix: alike; named. The dips picked out of a list of places; in the order of their parts, by their numbers. -/
import Derived.Test.YtpdleigcdmgfmaaSaMath
import Derived.Test.YtpdleigcdmgfmaaSufI
import Derived.Test.YtpdleigcdmgfmaaIntPut
import Derived.Deep.QuietTactic
namespace Go.Proofs.Ytpdleigcdmgfmaa
open Go.RowKit

/-- bools as they lie. -/
def blcells (f : Nat → Bool) (n : Nat) : List Value := (List.range n).map fun t => Value.bool (f t)
theorem blcells_length (f : Nat → Bool) (n : Nat) : (blcells f n).length = n := by unfold blcells; simp
theorem blcells_at (f : Nat → Bool) (n k : Nat) (h : k < n) : (blcells f n)[k]? = some (.bool (f k)) := by
  unfold blcells
  rw [List.getElem?_map, List.getElem?_range h]
  rfl
theorem blcells_congr {f f' : Nat → Bool} {n : Nat} (h : ∀ j, j < n → f j = f' j) : blcells f n = blcells f' n := by
  unfold blcells
  exact List.map_congr_left fun j hj => by rw [h j (List.mem_range.1 hj)]
/-- the heads, as ints. -/
def hdI (X : Nat → Nat) (n : Nat) (x : Nat) : Int := ((hd X n x : Nat) : Int)

section
variable {w w' : World} {T n c b g e h : Nat} {A : Option Addr} {X : Nat → Nat}
end

/-- the numbers picked out among the first i, in their order. -/
def Picks (f : Nat → Bool) (s : Nat → Nat) (i : Nat) (U : Nat → Int) : Prop := ∀ j, j < i → f j = true → U (Pl.cnt f j) = ((s j : Nat) : Int)
theorem Picks.skip {f : Nat → Bool} {s : Nat → Nat} {i : Nat} {U : Nat → Int} (h : Picks f s i U) (hf : f i = false) : Picks f s (i + 1) U := fun j hj hfj => by
  by_cases e : j = i
  · subst e
    rw [hf] at hfj
    cases hfj
  · exact h j (by omega) hfj
theorem Picks.take {f : Nat → Bool} {s : Nat → Nat} {i : Nat} {U : Nat → Int} (h : Picks f s i U) : Picks f s (i + 1) (putI U (Pl.cnt f i) ((s i : Nat) : Int)) := fun j hj hfj => by
  by_cases e : j = i
  · subst e
    exact putI_at _ _ _
  · have := Pl.cnt_at_lt (f := f) (show j < i by omega) hfj
    rw [putI_off _ (by omega)]
    exact h j (by omega) hfj
theorem icells_putI (U : Nat → Int) (n : Nat) (x : Int) : icells U n ++ [.int .i64 x] = icells (putI U n x) (n + 1) := by
  rw [icells_snoc, putI_at]
  congr 1
  exact icells_congr fun j hj => (putI_off _ (by omega)).symm
theorem cnt_true {f : Nat → Bool} {i : Nat} (h : f i = true) : Pl.cnt f (i + 1) = Pl.cnt f i + 1 := by rw [Pl.cnt_succ, if_pos h]
theorem cnt_false {f : Nat → Bool} {i : Nat} (h : f i = false) : Pl.cnt f (i + 1) = Pl.cnt f i := by rw [Pl.cnt_succ, h]; rfl

section
variable {w : World} {T n c b g e h : Nat} {A : Option Addr} {X : Nat → Nat}
end
end Go.Proofs.Ytpdleigcdmgfmaa

namespace Go.Proofs.Ytpdleigcdmgfmaa
open Go.RowKit

theorem Its.cut_ {w : World} {B n o m : Nat} {ad : Addr} {V : Nat → Int} (h : Its w B (some ad) n V) (ho : o + m ≤ n) : Its w B (some (ad.add o)) m (fun j => V (o + j)) := fun j hj => by
  obtain ⟨ad', e, h1, h2, h3⟩ := h (o + j) (by omega)
  cases e
  refine ⟨_, rfl, by rw [add_block]; exact h1, ?_, h3⟩
  rw [Addr.add_add]
  exact h2
/-- where two lists of numbers part. -/
def Cmp (V : Nat → Int) (n : Nat) (V' : Nat → Int) (m : Nat) (r : Int) : Prop :=
  ∃ k, (∀ j, j < k → V j = V' j) ∧ k ≤ n ∧ k ≤ m ∧ ((k = n ∧ k < m ∧ r = -1) ∨ (k < n ∧ k = m ∧ r = 1) ∨ (k = n ∧ k = m ∧ r = 0) ∨ (k < n ∧ k < m ∧ V k < V' k ∧ r = -1) ∨ (k < n ∧ k < m ∧ V' k < V k ∧ r = 1))
theorem cmp_least {V : Nat → Int} {n a b : Nat} {r : Int} (ha : a < n) (hb : b < n) (h : Cmp (fun j => V (a + j)) (n - a) (fun j => V (b + j)) (n - b) r) : r = leastI V n (a : Int) (b : Int) := by
  obtain ⟨k, h1, h2, h3, h4⟩ := h
  have h1 : ∀ j, j < k → V (a + j) = V (b + j) := h1
  rcases h4 with ⟨e1, e2, rfl⟩ | ⟨e1, e2, rfl⟩ | ⟨e1, e2, rfl⟩ | ⟨e1, e2, e3, rfl⟩ | ⟨e1, e2, e3, rfl⟩
  · exact (leastI_less ha hb ⟨k, h1, by omega, by omega, .inl (by omega)⟩).symm
  · exact (leastI_more ha hb ⟨k, fun j hj => (h1 j hj).symm, by omega, by omega, .inl (by omega)⟩).symm
  · exact (leastI_out (by omega)).symm
  · exact (leastI_less ha hb ⟨k, h1, by omega, by omega, .inr e3⟩).symm
  · exact (leastI_more ha hb ⟨k, fun j hj => (h1 j hj).symm, by omega, by omega, .inr e3⟩).symm
end Go.Proofs.Ytpdleigcdmgfmaa

namespace Go.Proofs.Ytpdleigcdmgfmaa
open Go.RowKit

theorem xi_at {X : Nat → Nat} {p q : Nat} (h : X p = X q) : xi X p = xi X q := xi_eq h
section
variable {w : World} {T n c b g e h : Nat} {A : Option Addr} {X : Nat → Nat}
/-- what named leaves. -/
def NamedPost (w : World) (X : Nat → Nat) (m : Nat) (d σ : Nat → Nat) (e' : Ending) (w' : World) : Prop :=
  ∃ (g1 : Nat) (Y : Nat → Nat), e' = .returned (.tuple #[.slice (some ⟨g1, 0, none⟩) m m, .int .i64 ((unl X m d σ m : Nat) : Int)]) ∧ Names X m d σ Y ∧ w'.ownsRow w.heap.size 3 1 (.slice (some ⟨g1, 0, none⟩) m m) m (icells (xi Y) m) ∧ Below w.heap.size w w'
end
end Go.Proofs.Ytpdleigcdmgfmaa

namespace Go.Proofs.Ytpdleigcdmgfmaa

theorem cnt_onto (f : Nat → Bool) : ∀ n c, c < Pl.cnt f n → ∃ j, j < n ∧ f j = true ∧ Pl.cnt f j = c
  | 0, c, h => absurd h (Nat.not_lt_zero c)
  | n + 1, c, h => by
    by_cases hf : f n = true
    · rw [cnt_true hf] at h
      by_cases hc : c = Pl.cnt f n
      · exact ⟨n, Nat.lt_succ_self n, hf, hc.symm⟩
      · obtain ⟨j, h1, h2⟩ := cnt_onto f n c (by omega)
        exact ⟨j, by omega, h2⟩
    · rw [cnt_false (by simpa using hf)] at h
      obtain ⟨j, h1, h2⟩ := cnt_onto f n c h
      exact ⟨j, by omega, h2⟩
section
variable {X : Nat → Nat} {n m : Nat} {D : Nat → Nat}
theorem Dips.many (h : Dips X n m D) : m = Pl.cnt (dip X n) n := by
  have h1 := pigeon n m (dip X n) D h.is h.inj
  have h2 := covered n m (dip X n) D h.all
  omega
/-- picked out of all places in some order: the dips, in that order. -/
theorem picks_dips {Q : Nat → Nat → Prop} {S : Nat → Int} {s : Nat → Nat} {U : Nat → Int} (hs : InOrder n Q S s) (hU : Picks (fun j => dip X n (s j)) s n U) :
    Dips X n (Pl.cnt (fun j => dip X n (s j)) n) (fun c => (U c).toNat) ∧ (∀ c, c < Pl.cnt (fun j => dip X n (s j)) n → U c = (((U c).toNat : Nat) : Int)) ∧
      ∀ i j, i < j → j < Pl.cnt (fun j => dip X n (s j)) n → ¬ Q (U j).toNat (U i).toNat := by
  obtain ⟨_, h1, h2, h3⟩ := hs
  have at_ : ∀ c, c < Pl.cnt (fun j => dip X n (s j)) n → ∃ j, j < n ∧ dip X n (s j) = true ∧ Pl.cnt (fun j => dip X n (s j)) j = c ∧ U c = ((s j : Nat) : Int) := fun c hc => by
    obtain ⟨j, g1, g2, g3⟩ := cnt_onto _ n c hc
    refine ⟨j, g1, g2, g3, ?_⟩
    have := hU j g1 g2
    rw [g3] at this
    exact this
  refine ⟨⟨fun c hc => ?_, fun c c' hc hc' he => ?_, fun p hp hd => ?_⟩, fun c hc => ?_, fun i j hij hj => ?_⟩
  · obtain ⟨j, g1, g2, _, g4⟩ := at_ c hc
    show (U c).toNat < n ∧ dip X n (U c).toNat = true
    rw [g4, Int.toNat_natCast]
    exact ⟨h1 j g1, g2⟩
  · obtain ⟨j, g1, _, g3, g4⟩ := at_ c hc
    obtain ⟨j', g1', _, g3', g4'⟩ := at_ c' hc'
    have he : (U c).toNat = (U c').toNat := he
    rw [g4, g4', Int.toNat_natCast, Int.toNat_natCast] at he
    rw [← g3, ← g3', h2 j j' g1 g1' he]
  · obtain ⟨j, hj, rfl⟩ := inj_onto n s h1 (fun _ _ a b c => h2 _ _ a b c) p hp
    refine ⟨Pl.cnt (fun j => dip X n (s j)) j, Pl.cnt_at_lt (f := fun j => dip X n (s j)) hj hd, ?_⟩
    show (U _).toNat = _
    rw [hU j hj hd, Int.toNat_natCast]
  · obtain ⟨j, _, _, _, g4⟩ := at_ c hc
    rw [g4, Int.toNat_natCast]
  · obtain ⟨a, a1, a2, a3, a4⟩ := at_ i (by omega)
    obtain ⟨b, b1, b2, b3, b4⟩ := at_ j hj
    rw [a4, b4, Int.toNat_natCast, Int.toNat_natCast]
    refine h3 a b ?_ b1
    rcases Nat.lt_or_ge a b with g | g
    · exact g
    · have := Pl.cnt_mono (fun j => dip X n (s j)) g
      omega
/-- the dips as they stand: rising. -/
theorem picks_up {U : Nat → Int} (hU : Picks (dip X n) (fun p => p) n U) : DipsUp X n (Pl.cnt (dip X n) n) (fun c => (U c).toNat) ∧ ∀ c, c < Pl.cnt (dip X n) n → U c = (((U c).toNat : Nat) : Int) := by
  have h := picks_dips (X := X) (n := n) (Q := fun p q => p < q) (S := fun j => ((j : Nat) : Int)) (s := fun j => j) (U := U) ⟨fun _ _ => rfl, fun _ h => h, fun _ _ _ _ e => e, fun i j hij _ h => by
    have h : j < i := h
    omega⟩ hU
  refine ⟨⟨h.1, fun k l hkl hl => ?_⟩, h.2.1⟩
  have h1 : ¬ (U l).toNat < (U k).toNat := h.2.2 k l hkl hl
  have h2 : (U k).toNat ≠ (U l).toNat := fun e => by
    have := h.1.inj k l (Nat.lt_trans hkl hl) hl e
    omega
  show (U k).toNat < (U l).toNat
  omega
/-- the numbers of the dips, in the order of their parts. -/
theorem dipOrd_of {d : Nat → Nat} (hd : DipsUp X n m d) (hD : Dips X n m D) (ho : ∀ i j, i < j → j < m → ¬ Ahead X n 1 (D j) (D i)) : ∃ σ, (∀ j, j < m → D j = d (σ j)) ∧ DipOrd X n m d σ := by
  have hx : ∀ j, ∃ k, j < m → k < m ∧ d k = D j := fun j => by
    by_cases hj : j < m
    · obtain ⟨k, hk, e⟩ := hd.all (D j) (hD.is j hj).1 (hD.is j hj).2
      exact ⟨k, fun _ => ⟨hk, e⟩⟩
    · exact ⟨0, fun h => absurd h hj⟩
  obtain ⟨σ, hσ⟩ := Classical.axiomOfChoice hx
  refine ⟨σ, fun j hj => (hσ j hj).2.symm, hd, fun j hj => (hσ j hj).1, fun i j hi hj he => ?_, fun i j hij hj => ?_⟩
  · refine hD.inj i j hi hj ?_
    rw [← (hσ i hi).2, ← (hσ j hj).2, he]
  · rw [(hσ j hj).2, (hσ i (by omega)).2]
    exact ho i j hij hj
/-- the dips in the order of a list of their numbers. -/
theorem dips_of {d y : Nat → Nat} (hd : Dips X n m d) (hy : ∀ j, j < m → y j < m) (hi : ∀ i j, i < m → j < m → y i = y j → i = j) : Dips X n m (fun j => d (y j)) :=
  ⟨fun k hk => hd.is _ (hy k hk), fun k l hk hl he => hi k l hk hl (hd.inj _ _ (hy k hk) (hy l hl) he), fun p hp hdp => by
    obtain ⟨k, hk, rfl⟩ := hd.all p hp hdp
    obtain ⟨j, hj, rfl⟩ := inj_onto m y hy (fun _ _ a b c => hi _ _ a b c) k hk
    exact ⟨j, hj, rfl⟩⟩
end
end Go.Proofs.Ytpdleigcdmgfmaa
