/- The unlike numbers of a range by parts: where a number stands for the first time, what is found and what is left: plain. -/
import Derived.Test.YtddfaidfnmpnlaaListMath
import Derived.Test.YtddfaidfnmpnlaaDocMath
import Derived.Test.YtddfaidfnmpnlaaRmqMath
import Derived.Test.YtddfaidfnmpnlaaSaMath
namespace Go.Proofs.Ytddfaidfnmpnlaa

theorem at_any {F : Nat → Int} {x : Int} : ∀ m, (∀ p q, p < q → q < m → F p < F q) → ∃ k, AtF F m k x
  | 0, _ => ⟨0, Nat.le_refl _, fun p h => absurd h (Nat.not_lt_zero p), fun h => absurd h (Nat.not_lt_zero _)⟩
  | m + 1, h => by
    obtain ⟨k, hk⟩ := at_any (F := F) (x := x) m (fun p q h1 h2 => h p q h1 (by omega))
    rcases Nat.lt_or_eq_of_le hk.le with e | e
    · exact ⟨k, by omega, hk.low, fun _ => hk.high e⟩
    · subst e
      by_cases g : F k < x
      · exact ⟨k + 1, Nat.le_refl _, fun p hp => by
          rcases Nat.lt_or_eq_of_le (Nat.le_of_lt_succ hp) with q | q
          · exact hk.low p q
          · subst q; exact g, fun h => absurd h (Nat.lt_irrefl _)⟩
      · exact ⟨k, Nat.le_succ k, hk.low, fun _ => by omega⟩
/-- a number more. -/
theorem EnumS.more {S : Int → Prop} {F : Nat → Int} {m : Nat} (h : EnumS S F m) (x : Int) : ∃ F' m', EnumS (fun y => S y ∨ y = x) F' m' ∧ m ≤ m' ∧ (¬ S x → m' = m + 1) := by
  obtain ⟨k, hk⟩ := at_any (F := F) (x := x) m h.rise
  by_cases g : k < m ∧ F k = x
  · exact ⟨F, m, h.old (fun _ => Iff.rfl) g.1 g.2, Nat.le_refl _, fun q => absurd ((h.each x).2 ⟨k, g.1, g.2⟩) q⟩
  · exact ⟨insE F k x, m + 1, h.ins (fun _ => Iff.rfl) hk (fun q e => g ⟨q, e⟩), Nat.le_succ m, fun _ => rfl⟩
/-- the numbers of a range can be listed. -/
theorem rng_enum (V : Nat → Int) (a b : Int) : ∀ n, ∃ G t, EnumS (RngS V a b n) G t
  | 0 => ⟨fun _ => 0, 0, EnumS.none fun x ⟨j, hj, _⟩ => absurd hj (Nat.not_lt_zero j)⟩
  | n + 1 => by
    obtain ⟨G, t, h⟩ := rng_enum V a b n
    by_cases g : a ≤ (n : Int) ∧ (n : Int) < b
    · obtain ⟨F', m', h', _⟩ := h.more (V n)
      exact ⟨F', m', h'.congr fun x => (RngS.in_ g.1 g.2 x).symm⟩
    · exact ⟨G, t, h.congr fun x => RngS.out_ g x⟩
/-- some of them, and not fewer: all. -/
theorem EnumS.whole {S T : Int → Prop} {F G : Nat → Int} {k t : Nat} (h : EnumS S F k) (h' : EnumS T G t) (hS : ∀ x, S x → T x) (hk : t ≤ k) : EnumS T F k := by
  refine h.congr fun x => ⟨hS x, fun hx => Classical.byContradiction fun hn => ?_⟩
  obtain ⟨F', m', h2, _, h3⟩ := h.more x
  have e := h3 hn
  have := h2.at_most (V := G) (n := t) fun y hy => by
    rcases hy with hy | rfl
    · exact (h'.each y).1 (hS y hy)
    · exact (h'.each y).1 hx
  omega
theorem EnumS.part {S T : Int → Prop} {F G : Nat → Int} {k t : Nat} (h : EnumS S F k) (h' : EnumS T G t) (hS : ∀ x, S x → T x) : k ≤ t := h.at_most fun x hx => (h'.each x).1 (hS x hx)

/-- a place of a range whose number isn't ahead of it in the range. -/
structure FstB (V : Nat → Int) (a b : Int) (n i : Nat) : Prop where
  lt : i < n
  lo : a ≤ (i : Int)
  hi : (i : Int) < b
  new : lastD V i < a
theorem FstB.one {V : Nat → Int} {a b : Int} {n i j : Nat} (h : FstB V a b n i) (h' : FstB V a b n j) (e : V i = V j) : i = j := by
  have key : ∀ {i j : Nat}, FstB V a b n i → FstB V a b n j → V i = V j → ¬ i < j := fun {i j} h h' e g => by
    have h1 := h'.new
    have h2 := h.lo
    rcases lastD_is V j with ⟨_, g2⟩ | ⟨p, _, g2, _, g4⟩
    · exact g2 i g e
    · by_cases q : p < i
      · exact g4 i q g e
      · omega
  have h1 := key h h' e
  have h2 := key h' h e.symm
  omega
theorem FstB.of {V : Nat → Int} {a b : Int} {n : Nat} (ha : 0 ≤ a) : ∀ {j : Nat}, j < n → a ≤ (j : Int) → (j : Int) < b → ∃ i, FstB V a b n i ∧ V i = V j := by
  intro j
  induction j using Nat.strongRecOn with
  | ind j ih =>
    intro h1 h2 h3
    by_cases g : lastD V j < a
    · exact ⟨j, ⟨h1, h2, h3, g⟩, rfl⟩
    · rcases lastD_is V j with ⟨g1, _⟩ | ⟨p, g1, g2, g3, _⟩
      · omega
      · obtain ⟨i, k1, k2⟩ := ih p g1 (by omega) (by omega) (by omega)
        exact ⟨i, k1, k2.trans g3⟩
theorem FstB.rng {V : Nat → Int} {a b : Int} {n : Nat} (ha : 0 ≤ a) (x : Int) : RngS V a b n x ↔ ∃ i, FstB V a b n i ∧ V i = x := by
  constructor
  · rintro ⟨j, hj, g1, g2, rfl⟩
    exact FstB.of ha hj g1 g2
  · rintro ⟨i, h, rfl⟩
    exact ⟨i, h.lt, h.lo, h.hi, rfl⟩
theorem RngS.from0 {V : Nat → Int} {a b : Int} {n : Nat} (x : Int) : RngS V (max a 0) b n x ↔ RngS V a b n x := by
  constructor
  · rintro ⟨j, hj, g1, g2, g3⟩
    exact ⟨j, hj, by omega, g2, g3⟩
  · rintro ⟨j, hj, g1, g2, g3⟩
    exact ⟨j, hj, by omega, g2, g3⟩

/-- k places are found (s), m parts are left, part j from X j on, ahead of Y j. -/
structure LsIn (V : Nat → Int) (a b : Int) (n : Nat) (s : Nat → Nat) (k : Nat) (X Y : Nat → Int) (m : Nat) : Prop where
  fst : ∀ j, j < k → FstB V a b n (s j)
  inj : ∀ i j, i < k → j < k → s i = s j → i = j
  room : ∀ j, j < m → (a ≤ X j ∧ X j ≤ max a (n : Int)) ∧ (min b 0 ≤ Y j ∧ Y j ≤ b)
  cover : ∀ i, FstB V a b n i → (∃ j, j < k ∧ s j = i) ∨ ∃ j, j < m ∧ X j ≤ (i : Int) ∧ (i : Int) < Y j
  apart : ∀ i j, i < k → j < m → X j ≤ (s i : Int) → (s i : Int) < Y j → False
  disj : ∀ i j (p : Nat), i < j → j < m → X i ≤ (p : Int) → (p : Int) < Y i → X j ≤ (p : Int) → (p : Int) < Y j → False
/-- a row with another number at a place. -/
def setF (U : Nat → Int) (n : Nat) (x : Int) : Nat → Int := fun j => if j = n then x else U j
theorem setF_at (U : Nat → Int) (n : Nat) (x : Int) : setF U n x n = x := if_pos rfl
theorem setF_off (U : Nat → Int) {n j : Nat} (x : Int) (h : j ≠ n) : setF U n x j = U j := if_neg h
def setN (s : Nat → Nat) (k i : Nat) : Nat → Nat := fun j => if j = k then i else s j
theorem setN_at (s : Nat → Nat) (k i : Nat) : setN s k i k = i := if_pos rfl
theorem setN_off (s : Nat → Nat) {k j : Nat} (i : Nat) (h : j ≠ k) : setN s k i j = s j := if_neg h
section
variable {V : Nat → Int} {a b : Int} {n : Nat} {s : Nat → Nat} {k : Nat} {X Y : Nat → Int} {m : Nat}
theorem LsIn.start (V : Nat → Int) (a b : Int) (n : Nat) (s : Nat → Nat) (X Y : Nat → Int) (hX : X 0 = a) (hY : Y 0 = b) : LsIn V a b n s 0 X Y 1 where
  fst := fun j h => absurd h (Nat.not_lt_zero j)
  inj := fun i _ h => absurd h (Nat.not_lt_zero i)
  room := fun j h => by
    obtain rfl : j = 0 := by omega
    rw [hX, hY]
    omega
  cover := fun i h => .inr ⟨0, Nat.one_pos, by rw [hX]; exact h.lo, by rw [hY]; exact h.hi⟩
  apart := fun i _ h => absurd h (Nat.not_lt_zero i)
  disj := fun i j p h1 h2 => by omega
/-- in the last part there is nothing. -/
theorem LsIn.miss (h : LsIn V a b n s k X Y (m + 1)) (hn : ∀ i, FstB V a b n i → X m ≤ (i : Int) → (i : Int) < Y m → False) : LsIn V a b n s k X Y m where
  fst := h.fst
  inj := h.inj
  room := fun j hj => h.room j (by omega)
  cover := fun i hi => by
    rcases h.cover i hi with g | ⟨j, hj, g1, g2⟩
    · exact .inl g
    · rcases Nat.lt_or_eq_of_le (Nat.le_of_lt_succ hj) with q | q
      · exact .inr ⟨j, q, g1, g2⟩
      · subst q
        exact absurd g2 fun g2 => hn i hi g1 g2
  apart := fun i j hi hj => h.apart i j hi (by omega)
  disj := fun i j p h1 h2 => h.disj i j p h1 (by omega)
/-- a place is found in it. -/
theorem LsIn.hit (h : LsIn V a b n s k X Y (m + 1)) {i : Nat} (hi : FstB V a b n i) (h1 : X m ≤ (i : Int)) (h2 : (i : Int) < Y m) :
    LsIn V a b n (setN s k i) (k + 1) (setF (setF X m ((i : Int) + 1)) (m + 1) (X m)) (setF (setF Y m (Y m)) (m + 1) (i : Int)) (m + 2) where
  fst := fun j hj => by
    by_cases e : j = k
    · rw [e, setN_at]; exact hi
    · rw [setN_off _ _ e]; exact h.fst j (by omega)
  inj := fun p q hp hq e => by
    by_cases e1 : p = k <;> by_cases e2 : q = k
    · rw [e1, e2]
    · rw [e1, setN_at, setN_off _ _ e2] at e
      exact absurd h2 fun h2 => h.apart q m (by omega) (by omega) (by rw [← e]; exact h1) (by rw [← e]; exact h2)
    · rw [e2, setN_at, setN_off _ _ e1] at e
      exact absurd h2 fun h2 => h.apart p m (by omega) (by omega) (by rw [e]; exact h1) (by rw [e]; exact h2)
    · rw [setN_off _ _ e1, setN_off _ _ e2] at e
      exact h.inj p q (by omega) (by omega) e
  room := fun j hj => by
    have hr := h.room m (by omega)
    have := hi.lt
    by_cases e1 : j = m + 1
    · rw [e1, setF_at, setF_at]
      omega
    · rw [setF_off _ _ e1, setF_off _ _ e1]
      by_cases e2 : j = m
      · rw [e2, setF_at, setF_at]
        omega
      · rw [setF_off _ _ e2, setF_off _ _ e2]
        exact h.room j (by omega)
  cover := fun q hq => by
    rcases h.cover q hq with ⟨j, hj, g⟩ | ⟨j, hj, g1, g2⟩
    · exact .inl ⟨j, by omega, by rw [setN_off _ _ (by omega)]; exact g⟩
    · rcases Nat.lt_or_eq_of_le (Nat.le_of_lt_succ hj) with r | r
      · exact .inr ⟨j, by omega, by rw [setF_off _ _ (by omega), setF_off _ _ (by omega)]; exact g1, by rw [setF_off _ _ (by omega), setF_off _ _ (by omega)]; exact g2⟩
      · subst r
        rcases Nat.lt_trichotomy q i with r | r | r
        · exact .inr ⟨j + 1, by omega, by rw [setF_at]; exact g1, by rw [setF_at]; omega⟩
        · exact .inl ⟨k, by omega, by rw [setN_at]; exact r.symm⟩
        · exact .inr ⟨j, by omega, by rw [setF_off _ _ (by omega), setF_at]; omega, by rw [setF_off _ _ (by omega), setF_at]; exact g2⟩
  apart := fun p j hp hj => by
    by_cases e : p = k
    · rw [e, setN_at]
      by_cases e1 : j = m + 1
      · rw [e1, setF_at, setF_at]; omega
      · rw [setF_off _ _ e1, setF_off _ _ e1]
        by_cases e2 : j = m
        · rw [e2, setF_at, setF_at]; omega
        · rw [setF_off _ _ e2, setF_off _ _ e2]
          intro g1 g2
          exact h.disj j m i (by omega) (by omega) g1 g2 h1 h2
    · rw [setN_off _ _ e]
      by_cases e1 : j = m + 1
      · rw [e1, setF_at, setF_at]
        intro g1 g2
        exact h.apart p m (by omega) (by omega) g1 (by omega)
      · rw [setF_off _ _ e1, setF_off _ _ e1]
        by_cases e2 : j = m
        · rw [e2, setF_at, setF_at]
          intro g1 g2
          exact h.apart p m (by omega) (by omega) (by omega) g2
        · rw [setF_off _ _ e2, setF_off _ _ e2]
          exact h.apart p j (by omega) (by omega)
  disj := fun p j q hp hj => by
    by_cases e1 : j = m + 1
    · subst e1
      rw [setF_off (setF X m ((i : Int) + 1)) _ (by omega), setF_off (setF Y m (Y m)) _ (by omega), setF_at, setF_at]
      by_cases e2 : p = m
      · rw [e2, setF_at, setF_at]; omega
      · rw [setF_off _ _ e2, setF_off _ _ e2]
        intro g1 g2 g3 g4
        exact h.disj p m q (by omega) (by omega) g1 g2 g3 (by omega)
    · rw [setF_off _ _ e1, setF_off _ _ e1, setF_off _ _ (by omega), setF_off _ _ (by omega)]
      by_cases e2 : j = m
      · subst e2
        rw [setF_at, setF_at, setF_off _ _ (by omega), setF_off _ _ (by omega)]
        intro g1 g2 g3 g4
        exact h.disj p j q (by omega) (by omega) g1 g2 (by omega) g4
      · rw [setF_off _ _ e2, setF_off _ _ e2, setF_off _ _ (by omega), setF_off _ _ (by omega)]
        exact h.disj p j q hp (by omega)
theorem LsIn.few (h : LsIn V a b n s k X Y m) : k ≤ n := Nat.le_trans (pigeon n k (fun _ => true) s (fun i hi => ⟨(h.fst i hi).lt, rfl⟩) h.inj) (Pl.cnt_le _ n)
/-- nothing is left that might stand there for the first time. -/
theorem least_none {L : Nat → Int} {x y : Int} (h : lstR L x y n < 0) : ∀ i, FstB V a b n i → x ≤ (i : Int) → (i : Int) < y → False := fun i hi h1 h2 => by
  rcases lstR_is L x y n with ⟨_, g⟩ | ⟨p, g, _⟩
  · exact g i hi.lt ⟨h1, h2⟩
  · omega
theorem least_high {x y : Int} {p : Nat} (h : lstR (lastD V) x y n = (p : Int)) (hp : a ≤ lastD V p) : ∀ i, FstB V a b n i → x ≤ (i : Int) → (i : Int) < y → False := fun i hi h1 h2 => by
  rcases lstR_is (lastD V) x y n with ⟨g, _⟩ | ⟨q, g, g2⟩
  · omega
  · obtain rfl : q = p := by omega
    have := g2.le i hi.lt h1 h2
    have := hi.new
    omega
theorem least_hit {x y : Int} {p : Nat} (h : lstR (lastD V) x y n = (p : Int)) (hp : lastD V p < a) (hx : a ≤ x) (hy : y ≤ b) : FstB V a b n p ∧ x ≤ (p : Int) ∧ (p : Int) < y := by
  rcases lstR_is (lastD V) x y n with ⟨g, _⟩ | ⟨q, g, g2⟩
  · omega
  · obtain rfl : q = p := by omega
    exact ⟨⟨g2.lt, by have := g2.lo; omega, by have := g2.hi; omega, hp⟩, g2.lo, g2.hi⟩
/-- what is found, put in order. -/
theorem LsIn.sorted (h : LsIn V a b n s k X Y m) {ys : List Int} (hl : ys.length = k) (hp : ys.Perm ((List.range k).map fun j => V (s j))) (hy : ys.Pairwise (· ≤ ·)) : EnumS (fun x => ∃ j, j < k ∧ V (s j) = x) (fun p => ys.getD p 0) k := by
  have hnd : ((List.range k).map fun j => V (s j)).Nodup := by
    refine List.pairwise_map.2 (List.Pairwise.imp_of_mem (fun {p q} ha hb g => ?_) List.nodup_range)
    rw [List.mem_range] at ha hb
    intro e
    exact g (h.inj p q ha hb ((h.fst p ha).one (h.fst q hb) e))
  have hnd2 : ys.Nodup := hp.symm.nodup hnd
  have hlt : ys.Pairwise (· < ·) := (hy.and hnd2).imp fun h => by omega
  have hget : ∀ p, p < k → ∀ (q : p < ys.length), ys.getD p 0 = ys[p] := fun p _ q => by rw [List.getD_eq_getElem?_getD, List.getElem?_eq_getElem q]; rfl
  refine ⟨fun p q hpq hq => ?_, fun x => ?_⟩
  · show ys.getD p 0 < ys.getD q 0
    rw [hget p (by omega) (by omega), hget q hq (by omega)]
    exact List.pairwise_iff_getElem.1 hlt p q (by omega) (by omega) hpq
  · have h1 : (∃ j, j < k ∧ V (s j) = x) ↔ x ∈ ys := by
      rw [hp.mem_iff, List.mem_map]
      constructor
      · rintro ⟨j, hj, e⟩
        exact ⟨j, List.mem_range.2 hj, e⟩
      · rintro ⟨j, hj, e⟩
        exact ⟨j, List.mem_range.1 hj, e⟩
    rw [h1, List.mem_iff_getElem]
    constructor
    · rintro ⟨p, hp2, e⟩
      exact ⟨p, by omega, by show ys.getD p 0 = x; rw [hget p (by omega) hp2, e]⟩
    · rintro ⟨p, hp2, e⟩
      exact ⟨p, by omega, by
        have e : ys.getD p 0 = x := e
        rw [hget p hp2 (by omega)] at e
        exact e⟩
/-- what Some answers. -/
theorem LsIn.done {a0 : Int} (h : LsIn V (max a0 0) b n s k X Y m) {F : Nat → Int} (hF : EnumS (fun x => ∃ j, j < k ∧ V (s j) = x) F k) {most : Int} (h1 : (k : Int) ≤ max 0 most) (h2 : m = 0 ∨ most ≤ (k : Int)) :
    ∃ G t, EnumS (RngS V a0 b n) G t ∧ (k : Int) = max 0 (min most (t : Int)) ∧ (∀ p q, p < q → q < k → F p < F q) ∧ ∀ p, p < k → RngS V a0 b n (F p) := by
  obtain ⟨G, t, hG⟩ := rng_enum V a0 b n
  have hS : ∀ x, (∃ j, j < k ∧ V (s j) = x) → RngS V a0 b n x := fun x ⟨j, hj, e⟩ => (RngS.from0 x).1 ((FstB.rng (by omega) x).2 ⟨s j, h.fst j hj, e⟩)
  have hkt := hF.part hG hS
  refine ⟨G, t, hG, ?_, hF.rise, fun p hp => hS _ ((hF.each _).2 ⟨p, hp, rfl⟩)⟩
  rcases h2 with rfl | h2
  · have : t ≤ k := hG.part hF fun x hx => by
      obtain ⟨i, hi, e⟩ := (FstB.rng (by omega) x).1 ((RngS.from0 x).2 hx)
      rcases h.cover i hi with ⟨j, hj, e2⟩ | ⟨j, hj, _⟩
      · exact ⟨j, hj, by rw [e2]; exact e⟩
      · exact absurd hj (Nat.not_lt_zero j)
    omega
  · omega
end
end Go.Proofs.Ytddfaidfnmpnlaa
