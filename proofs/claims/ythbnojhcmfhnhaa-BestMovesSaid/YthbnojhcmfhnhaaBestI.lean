/- What layer 18's laws ask of packages wave and best, as words (MatI, BestI), over any 'At' (a matrix lies at a pointer) and any 'St' (a search does); the laws' opening. -/
import Derived.Test.YthbnojhcmfhnhaaWavI
import Derived.Test.YthbnojhcmfhnhaaBestRef
import Derived.Test.YthbnojhcmfhnhaaOffB
namespace Go.Proofs.Ythbnojhcmfhnhaa
open Go.RowKit

/-- what package wave answers. At B w v n V m: a matrix of the first n numbers of V, none more than m, lies at v, all of it in blocks from B on. -/
structure MatI (At : Nat → World → Value → Nat → (Nat → Int) → Nat → Prop) : Prop where
  keep_ : ∀ {B : Nat} {w w' : World} {v : Value} {n m : Nat} {V : Nat → Int}, At B w v n V m → w.heap.size ≤ w'.heap.size → (∀ k, B ≤ k → k < w.heap.size → w'.heap[k]? = w.heap[k]?) → At B w' v n V m
  ptr : ∀ {B : Nat} {w : World} {v : Value} {n m : Nat} {V : Nat → Int}, At B w v n V m → ∃ a, v = .pointer (some a)
  new : ∀ (A : Option Addr) (n c : Nat) (V : Nat → Int) (most : Int) (w : World), n ≤ 4194303 → (Lit.int .i64 most).wf = true → ItsR w A n c V → Calls Try.prog 9 #[.slice A n c, .int .i64 most] w fun e w' =>
    (RightW V n most → ∃ v, e = .returned (.tuple #[v, .int .i64 0]) ∧ At w.heap.size w' v n V most.toNat) ∧ (¬ RightW V n most → e = .returned (.tuple #[.pointer none, .int .i64 2])) ∧ Below w.heap.size w w'
  distinct : ∀ (B : Nat) (v : Value) (n m : Nat) (V : Nat → Int) (a b : Int) (w : World), (Lit.int .i64 a).wf = true → (Lit.int .i64 b).wf = true → At B w v n V m → Calls Try.prog 17 #[v, .int .i64 a, .int .i64 b] w fun e w' => (∃ (A : Option Addr) (c : Nat) (D : List (Int × Nat)), e = .returned (.slice A D.length c) ∧ PairsOf (partL V a b n) D ∧ PrsR w' A D) ∧ Below w.heap.size w w'
/-- how many of a list's numbers a part has: those from p.1 on, 2 ^ p.2 of them may be. -/
def cntP (l : List Int) (p : Int × Nat) : Nat := l.countP fun x => decide (p.1 ≤ x ∧ x < p.1 + 2 ^ p.2)
/-- a part that is taken ahead of another. -/
def BetP (l : List Int) (p q : Int × Nat) : Prop := cntP l q < cntP l p ∨ (cntP l q = cntP l p ∧ p.1 < q.1)
/-- the halves of a part that have anything. -/
def halvesP (l : List Int) (p : Int × Nat) : List (Int × Nat) := [(p.1, p.2 - 1), (p.1 + 2 ^ (p.2 - 1), p.2 - 1)].filter fun q => decide (0 < cntP l q)
/-- the parts at first. -/
def startP (l : List Int) (W : Nat) : List (Int × Nat) := if l = [] then [] else [(0, W)]
/-- no pair. -/
def noneP : Value := .agg #[.int .i64 0, .int .i64 0]
/-- what package best answers. St B H F w s l P: a search over the numbers l that has the parts P lies at s, its own in the blocks of F, its matrix in those from B on, below H. -/
structure BestI (At : Nat → World → Value → Nat → (Nat → Int) → Nat → Prop) (St : Nat → Nat → (Nat → Prop) → World → Value → List Int → List (Int × Nat) → Prop) : Prop where
  top : ∀ (B : Nat) (v : Value) (n m : Nat) (V : Nat → Int) (a b k : Int) (w : World), (Lit.int .i64 a).wf = true → (Lit.int .i64 b).wf = true → (Lit.int .i64 k).wf = true → At B w v n V m → Calls Try.prog 13 #[v, .int .i64 a, .int .i64 b, .int .i64 k] w fun e w' => (∃ (A : Option Addr) (c : Nat) (T : List (Int × Nat)), e = .returned (.slice A T.length c) ∧ (T.length ≤ c ∧ c ≤ maxLen) ∧ (∃ R, BestOf (partL V a b n) R ∧ T = R.take k.toNat) ∧ PrsR w' A T) ∧ Below w.heap.size w w'
  nilTop : ∀ (a b k : Int) (w : World), Calls Try.prog 13 #[.pointer none, .int .i64 a, .int .i64 b, .int .i64 k] w fun e w' => (∃ (A : Option Addr) (c : Nat), e = .returned (.slice A 0 c)) ∧ Below w.heap.size w w'
  keepS_ : ∀ {B H : Nat} {F : Nat → Prop} {w w' : World} {s : Value} {l : List Int} {P : List (Int × Nat)}, St B H F w s l P → w.heap.size ≤ w'.heap.size → (∀ k, k < w.heap.size → (B ≤ k ∧ k < H) ∨ F k → w'.heap[k]? = w.heap[k]?) → St B H F w' s l P
  ptrS : ∀ {B H : Nat} {F : Nat → Prop} {w : World} {s : Value} {l : List Int} {P : List (Int × Nat)}, St B H F w s l P → ∃ a, s = .pointer (some a)
  new : ∀ (B : Nat) (v : Value) (n m : Nat) (V : Nat → Int) (a b : Int) (w : World), (Lit.int .i64 a).wf = true → (Lit.int .i64 b).wf = true → B ≤ w.heap.size → At B w v n V m → Calls Try.prog 14 #[v, .int .i64 a, .int .i64 b] w fun e w' => (∃ s F, e = .returned s ∧ St B w.heap.size F w' s (partL V a b n) (startP (partL V a b n) (widthN m)) ∧ ∀ k, F k → w.heap.size ≤ k ∧ k < w'.heap.size) ∧ Below w.heap.size w w'
  step : ∀ (B H : Nat) (F : Nat → Prop) (s : Value) (l : List Int) (P : List (Int × Nat)) (w : World), St B H F w s l P → (∀ k, F k → k < w.heap.size) → Calls Try.prog 15 #[s] w fun e w' => ∃ F',
    (P = [] → e = .returned (.tuple #[noneP, .bool false, .bool false]) ∧ St B H F' w' s l []) ∧
    (∀ p R, P.Perm (p :: R) → (∀ q ∈ R, BetP l p q) →
      (p.2 = 0 → e = .returned (.tuple #[.agg #[.int .i64 p.1, .int .i64 ((cntP l p : Nat) : Int)], .bool true, .bool true]) ∧ St B H F' w' s l R) ∧
      (0 < p.2 → e = .returned (.tuple #[noneP, .bool false, .bool true]) ∧ St B H F' w' s l (halvesP l p ++ R))) ∧
    (∀ k, F' k → F k ∨ w.heap.size ≤ k) ∧ (∀ k, F' k → k < w'.heap.size) ∧ OffB F w w'
  next : ∀ (B H : Nat) (F : Nat → Prop) (s : Value) (l : List Int) (w : World), St B H F w s l [] → (∀ k, F k → k < w.heap.size) → Calls Try.prog 16 #[s] w fun e w' => e = .returned (.tuple #[noneP, .bool false]) ∧ OffB F w w'
section
variable {At : Nat → World → Value → Nat → (Nat → Int) → Nat → Prop} {St : Nat → Nat → (Nat → Prop) → World → Value → List Int → List (Int × Nat) → Prop}
theorem MatI.keep (I : MatI At) {B : Nat} {w w' : World} {v : Value} {n m : Nat} {V : Nat → Int} (h : At B w v n V m) (hb : Below w.heap.size w w') : At B w' v n V m := I.keep_ h hb.size fun k _ hk => hb.block k hk
/-- the chapter's example. -/
def bxV : Nat → Int := litI [2, 0, 2, 1, 1, 2]
theorem bxRight18 : RightW bxV 6 2 := ⟨by decide, by decide, by decide, fun i hi => by
  have h : i = 0 ∨ i = 1 ∨ i = 2 ∨ i = 3 ∨ i = 4 ∨ i = 5 := by omega
  rcases h with rfl | rfl | rfl | rfl | rfl | rfl <;> decide⟩
theorem bxPart1 : partL bxV 0 6 6 = [2, 0, 2, 1, 1, 2] := by decide
theorem bxPart2 : partL bxV 1 5 6 = [0, 2, 1, 1] := by decide
theorem bx1 : BestOf (partL bxV 0 6 6) [(2, 3), (1, 2), (0, 1)] := by
  rw [bxPart1]
  refine ⟨?_, fun d hd => ?_, fun x hx => ?_⟩
  · simp [Bet]
  · simp only [List.mem_cons, List.not_mem_nil, or_false] at hd
    rcases hd with rfl | rfl | rfl <;> decide
  · simp only [List.mem_cons, List.not_mem_nil, or_false] at hx
    rcases hx with rfl | rfl | rfl | rfl | rfl | rfl <;> simp
theorem bx2 : BestOf (partL bxV 1 5 6) [(1, 2), (0, 1), (2, 1)] := by
  rw [bxPart2]
  refine ⟨?_, fun d hd => ?_, fun x hx => ?_⟩
  · simp [Bet]
  · simp only [List.mem_cons, List.not_mem_nil, or_false] at hd
    rcases hd with rfl | rfl | rfl <;> decide
  · simp only [List.mem_cons, List.not_mem_nil, or_false] at hx
    rcases hx with rfl | rfl | rfl | rfl <;> simp
set_option maxRecDepth 100000 in
set_option maxHeartbeats 3200000 in
theorem bfirst18_any (I : MatI At) (J : BestI At St) (w : World) : Calls Try.prog 7 #[] w fun e w' => e = .returned (.bool true) ∧ Below w.heap.size w w' := by
  have HI := Lib.hid I
  have HJ := Lib.hid J
  have i1 : ItsR (w.alloc (.cells #[.int .i64 2, .int .i64 0, .int .i64 2, .int .i64 1, .int .i64 1, .int .i64 2] 3)) (some ⟨w.heap.size, 0, none⟩) 6 6 bxV := itsR_litW w [2, 0, 2, 1, 1, 2] (by unfold maxLen; decide) (by decide)
  have hb1 : Below w.heap.size w (w.alloc (.cells #[.int .i64 2, .int .i64 0, .int .i64 2, .int .i64 1, .int .i64 1, .int .i64 2] 3)) := (Below.refl _ _).alloc (Nat.le_refl _) _
  have HN := Lib.hid (HI.out.new _ 6 6 bxV 2 _ (by decide) (by decide) i1)
  have HB1 := Lib.hid hb1
  clear I J i1 hb1
  go_enter Try.func7, Try.ntmps7
  go_wp2_with fail
  refine HN.out.mono ?_
  rintro e w1 ⟨h1, _, hb3⟩
  obtain ⟨v, rfl, hAt⟩ := h1 bxRight18
  obtain ⟨pa, rfl⟩ := HI.out.ptr hAt
  have HB2 := Lib.hid (HB1.out.trans (hb3.mono HB1.out.size))
  have HA1 := Lib.hid hAt
  have H1 := Lib.hid (HJ.out.top _ _ _ _ _ 0 6 2 w1 (by decide) (by decide) (by decide) HA1.out)
  clear hAt hb3 HN HB1 h1
  go_wp2_with fail
  refine H1.out.mono ?_
  rintro e w2 ⟨⟨A2, c2, T, rfl, _, ⟨R, hR, hT⟩, hPr⟩, hb4⟩
  obtain rfl := hR.one bx1
  replace hT : T = [(2, 3), (1, 2)] := hT
  subst hT
  have HB3 := Lib.hid (HB2.out.trans (hb4.mono HB2.out.size))
  have hb5 : Below w2.heap.size w2 (w2.alloc (.cells #[.int .i64 2, .int .i64 3, .int .i64 1, .int .i64 2] 39)) := (Below.refl _ _).alloc (Nat.le_refl _) _
  have HA2 := Lib.hid (HI.out.keep (HI.out.keep HA1.out hb4) hb5)
  have i3 : PrsR (w2.alloc (.cells #[.int .i64 2, .int .i64 3, .int .i64 1, .int .i64 2] 39)) (some ⟨w2.heap.size, 0, none⟩) [(2, 3), (1, 2)] := prs_lit w2 [(2, 3), (1, 2)] (by decide) (by decide)
  have HS1 := Lib.hid (refSameP_any A2 (some ⟨w2.heap.size, 0, none⟩) c2 2 [(2, 3), (1, 2)] _ (hPr.below hb5) i3)
  have HB4 := Lib.hid (HB3.out.trans (hb5.mono HB3.out.size))
  clear hR hPr hb4 hb5 i3 HA1 HB2 HB3 H1
  go_wp2_with fail
  refine HS1.out.mono ?_
  rintro e w3 ⟨rfl, hb6⟩
  have HB5 := Lib.hid (HB4.out.trans (hb6.mono HB4.out.size))
  have HA3 := Lib.hid (HI.out.keep HA2.out hb6)
  have H2 := Lib.hid (HJ.out.top _ _ _ _ _ 1 5 9 w3 (by decide) (by decide) (by decide) HA3.out)
  clear hb6 HS1 HA2 HB4
  go_wp2_with fail
  refine H2.out.mono ?_
  rintro e w4 ⟨⟨A3, c3, T, rfl, _, ⟨R, hR, hT⟩, hPr⟩, hb7⟩
  obtain rfl := hR.one bx2
  replace hT : T = [(1, 2), (0, 1), (2, 1)] := hT
  subst hT
  have HB6 := Lib.hid (HB5.out.trans (hb7.mono HB5.out.size))
  have hb8 : Below w4.heap.size w4 (w4.alloc (.cells #[.int .i64 1, .int .i64 2, .int .i64 0, .int .i64 1, .int .i64 2, .int .i64 1] 39)) := (Below.refl _ _).alloc (Nat.le_refl _) _
  have i4 : PrsR (w4.alloc (.cells #[.int .i64 1, .int .i64 2, .int .i64 0, .int .i64 1, .int .i64 2, .int .i64 1] 39)) (some ⟨w4.heap.size, 0, none⟩) [(1, 2), (0, 1), (2, 1)] := prs_lit w4 [(1, 2), (0, 1), (2, 1)] (by decide) (by decide)
  have HS2 := Lib.hid (refSameP_any A3 (some ⟨w4.heap.size, 0, none⟩) c3 3 [(1, 2), (0, 1), (2, 1)] _ (hPr.below hb8) i4)
  have HB7 := Lib.hid (HB6.out.trans (hb8.mono HB6.out.size))
  clear hR hPr hb7 hb8 i4 HA3 HB5 HB6 H2
  go_wp2_with fail
  refine HS2.out.mono ?_
  rintro e w5 ⟨rfl, hb9⟩
  have HB8 := Lib.hid (HB7.out.trans (hb9.mono HB7.out.size))
  have H3 := Lib.hid (HJ.out.nilTop 0 9 1 w5)
  clear hb9 HS2 HB7
  go_wp2_with fail
  refine H3.out.mono ?_
  rintro e w6 ⟨⟨A4, c4, rfl⟩, hb10⟩
  have HB9 := Lib.hid (HB8.out.trans (hb10.mono HB8.out.size))
  clear hb10 H3 HB8
  go_wp2_with fail
  go_ret
  exact ⟨rfl, HB9.out⟩
end
end Go.Proofs.Ythbnojhcmfhnhaa
