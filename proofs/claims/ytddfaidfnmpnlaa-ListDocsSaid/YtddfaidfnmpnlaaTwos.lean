/- Slices of two ints side by side (tenants, operations, ..): read, opened, how many memory has room for, rows of the call's own, append. -/
import Derived.Test.YtddfaidfnmpnlaaIntPut
import Derived.Deep.SlicePairs
import Derived.Deep.AppendLies
import Derived.SizedLaws
namespace Go.Proofs.Ytddfaidfnmpnlaa
open Go.ChangeShapes Go.WideShapes Go.ChangeAt Go.RowKit

/-- n pairs of ints that can be read, in blocks below B. -/
def PairI (w : World) (B : Nat) (A : Option Addr) (n : Nat) (X Y : Nat → Int) : Prop :=
  ∀ k, k < n → ∃ ad : Addr, A = some ad ∧ ad.block < B ∧ w.cell? (ad.add (k * 2)) = some (.int .i64 (X k)) ∧ w.cell? ⟨(ad.add (k * 2)).block, (ad.add (k * 2)).off + 1, none⟩ = some (.int .i64 (Y k)) ∧
    (-9223372036854775808 ≤ X k ∧ X k ≤ 9223372036854775807) ∧ -9223372036854775808 ≤ Y k ∧ Y k ≤ 9223372036854775807
theorem PairI.below {w w' : World} {B : Nat} {A : Option Addr} {n : Nat} {X Y : Nat → Int} (h : PairI w B A n X Y) (hb : Below B w w') : PairI w' B A n X Y := fun k hk => by
  obtain ⟨ad, e, h1, h2, h3, h4⟩ := h k hk
  exact ⟨ad, e, h1, (hb.cell (by rw [add_block]; exact h1)).trans h2, (hb.cell (by show (ad.add (k * 2)).block < B; rw [add_block]; exact h1)).trans h3, h4⟩
theorem PairI.congr {w : World} {B : Nat} {A : Option Addr} {n : Nat} {X Y X' Y' : Nat → Int} (h : PairI w B A n X Y) (hX : ∀ k, k < n → X k = X' k) (hY : ∀ k, k < n → Y k = Y' k) : PairI w B A n X' Y' := fun k hk => by
  rw [← hX k hk, ← hY k hk]
  exact h k hk
/-- with all that is asked of it. -/
def PairR (w : World) (A : Option Addr) (n c : Nat) (X Y : Nat → Int) : Prop := (A = none → n = 0 ∧ c = 0) ∧ n ≤ c ∧ c ≤ maxLen ∧ PairI w w.heap.size A n X Y
theorem PairI.higher {w : World} {B B' : Nat} {A : Option Addr} {n : Nat} {X Y : Nat → Int} (h : PairI w B A n X Y) (hB : B ≤ B') : PairI w B' A n X Y := fun k hk => by
  obtain ⟨ad, e, h1, h2⟩ := h k hk
  exact ⟨ad, e, Nat.lt_of_lt_of_le h1 hB, h2⟩
theorem PairR.below {w w' : World} {A : Option Addr} {n c : Nat} {X Y : Nat → Int} (h : PairR w A n c X Y) (hb : Below w.heap.size w w') : PairR w' A n c X Y := ⟨h.1, h.2.1, h.2.2.1, (h.2.2.2.below hb).higher hb.size⟩

section
variable {H : Type} {enc : TypeId × Value → H}
theorem open_twos {t e : TypeId} {f0 f1 : Field} (ht : Try.prog.underlying t = some (.slice e)) (he : Try.prog.underlying e = some (.struct #[f0, f1]))
    (ce : Try.prog.cellsOf e = 2) (o0 : f0.offset = 0) (o1 : f1.offset = 1) (c0 : Try.prog.cellsOf f0.type = 1) (c1 : Try.prog.cellsOf f1.type = 1) (u0 : Try.prog.underlying f0.type = some (.int .i64)) (u1 : Try.prog.underlying f1.type = some (.int .i64))
    {W : World} {v : Value} {d : DataW H} {p : List MemPlace} {b : Nat} {r : Reach} (hv : Value.okWide Try.prog W r b t v) (h : DataW.Trod enc Try.prog W 0 (fun _ => true) true t v d p) :
    ∃ (A : Option Addr) (n c : Nat) (X Y : Nat → Int), v = .slice A n c ∧ PairR W A n c X Y := by
  obtain ⟨a0, len, cap, rfl⟩ := okWide_slice ht hv
  obtain ⟨fuel, hf⟩ := h
  rcases Go.Deep.open_slice_pairs ht he ce o0 o1 c0 c1 hf with ⟨hcs, _⟩ | ⟨a, n, c, m, k, V0, V1, D0, D1, P0, P1, hcs, _, hl, hm, hmm, _, hi⟩
  · simp [Value.cells] at hcs
    obtain ⟨rfl, rfl, rfl⟩ := hcs
    exact ⟨none, 0, 0, fun _ => 0, fun _ => 0, rfl, fun _ => ⟨rfl, rfl⟩, Nat.le_refl _, Nat.zero_le _, fun k hk => absurd hk (by omega)⟩
  · simp [Value.cells] at hcs
    obtain ⟨rfl, rfl, rfl⟩ := hcs
    have hnm : len ≤ m := by rw [hmm]; split <;> omega
    refine ⟨some a, len, cap, fun k => intOf (V0 k), fun k => intOf (V1 k), rfl, fun e => (by cases e), hl, hm, fun k hk => ?_⟩
    obtain ⟨e0, e1, t0, t1⟩ := hi k (by omega)
    obtain ⟨z0, f0, _, g0⟩ := DataW.trod_int u0 t0
    obtain ⟨z1, f1, _, g1⟩ := DataW.trod_int u1 t1
    have q0 : V0 k = .int .i64 z0 := by simpa using f0
    have q1 : V1 k = .int .i64 z1 := by simpa using f1
    rw [q0] at e0
    rw [q1] at e1
    have hlt := cell_in e0
    rw [add_block] at hlt
    have qI : intOf (V0 k) = z0 := by rw [q0]; rfl
    have qV : intOf (V1 k) = z1 := by rw [q1]; rfl
    refine ⟨a, rfl, hlt, ?_, ?_, ?_, ?_⟩
    · show W.cell? _ = some (.int .i64 (intOf (V0 k)))
      rw [qI]; exact e0
    · show W.cell? ((a.add (k * 2)).add 1) = some (.int .i64 (intOf (V1 k)))
      rw [qV, Go.Deep.add_add]; exact e1
    · show _ ≤ intOf (V0 k) ∧ intOf (V0 k) ≤ _
      rw [qI]; exact i64_in g0
    · show _ ≤ intOf (V1 k) ∧ intOf (V1 k) ≤ _
      rw [qV]; exact i64_in g1
theorem twos_reach {t e : TypeId} {f0 f1 : Field} {y : Nat} (hy : Try.prog.bytesOf e = y) (ht : Try.prog.underlying t = some (.slice e)) (he : Try.prog.underlying e = some (.struct #[f0, f1]))
    (ce : Try.prog.cellsOf e = 2) (o0 : f0.offset = 0) (o1 : f1.offset = 1) (c0 : Try.prog.cellsOf f0.type = 1) (c1 : Try.prog.cellsOf f1.type = 1)
    {W : World} {A : Option Addr} {n c j : Nat} {d : DataW H} {p : List MemPlace} {ts : List TypeId} {ds : List (DataW H)} (h : DataW.Trod enc Try.prog W 0 (fun _ => true) true t (.slice A n c) d p)
    (hsz : (DataW.weightsEach Try.prog ts ds).all (· ≤ reachBytes) = true) (hj : ts[j]? = some t) (hd : ds[j]? = some d) : n * y ≤ 140737488351232 := by
  obtain ⟨fuel, hf⟩ := h
  rcases Go.Deep.open_slice_pairs ht he ce o0 o1 c0 c1 hf with ⟨hcs, _⟩ | ⟨a, len, cap, m, k, V0, V1, D0, D1, P0, P1, hcs, _, hl, hm, hmm, hx, hi⟩
  · simp [Value.cells] at hcs
    obtain ⟨rfl, rfl, rfl⟩ := hcs
    omega
  · simp [Value.cells] at hcs
    obtain ⟨rfl, rfl, rfl⟩ := hcs
    simp only [Prod.mk.injEq] at hx
    obtain ⟨rfl, _⟩ := hx
    have h1 := sized_slice hsz hj hd ht
    rw [hy] at h1
    simp only [List.length_map, List.length_range, reachBytes] at h1
    have h2 : n * y ≤ (n + (m - n)) * y := Nat.mul_le_mul_right _ (Nat.le_add_right _ _)
    omega
end

/-- pairs as cells. -/
def dcells (X Y : Nat → Int) : Nat → List Value
  | 0 => []
  | n + 1 => dcells X Y n ++ [.int .i64 (X n), .int .i64 (Y n)]
theorem dcells_length (X Y : Nat → Int) : ∀ n, (dcells X Y n).length = n * 2
  | 0 => rfl
  | n + 1 => by
    unfold dcells
    rw [List.length_append, dcells_length X Y n]
    show n * 2 + 2 = (n + 1) * 2
    omega
theorem dcells_at (X Y : Nat → Int) : ∀ n k, k < n → (dcells X Y n)[k * 2]? = some (.int .i64 (X k)) ∧ (dcells X Y n)[k * 2 + 1]? = some (.int .i64 (Y k))
  | 0, _, h => absurd h (Nat.not_lt_zero _)
  | n + 1, k, h => by
    unfold dcells
    by_cases e : k = n
    · subst e
      rw [List.getElem?_append_right (by rw [dcells_length]; omega), List.getElem?_append_right (by rw [dcells_length]; omega), dcells_length, Nat.sub_self, show k * 2 + 1 - k * 2 = 1 by omega]
      exact ⟨rfl, rfl⟩
    · rw [List.getElem?_append_left (by rw [dcells_length]; omega), List.getElem?_append_left (by rw [dcells_length]; omega)]
      exact dcells_at X Y n k (by omega)
theorem dcells_one (X Y : Nat → Int) : ∀ n, ∀ u ∈ dcells X Y n, u.oneCell' = true
  | 0, u, h => by cases h
  | n + 1, u, h => by
    unfold dcells at h
    rcases List.mem_append.1 h with h | h
    · exact dcells_one X Y n u h
    · simp at h
      rcases h with rfl | rfl <;> rfl
theorem dcells_odd (X Y : Nat → Int) (n j : Nat) (u : Value) (h : (dcells X Y n)[j]? = some u) : ∃ k, k < n ∧ ((j = k * 2 ∧ u = .int .i64 (X k)) ∨ (j = k * 2 + 1 ∧ u = .int .i64 (Y k))) := by
  have hl := (List.getElem?_eq_some_iff.1 h).1
  rw [dcells_length] at hl
  refine ⟨j / 2, by omega, ?_⟩
  obtain ⟨h1, h2⟩ := dcells_at X Y n (j / 2) (by omega)
  rcases Nat.mod_two_eq_zero_or_one j with e | e
  · left
    have ej : j / 2 * 2 = j := by omega
    rw [ej, h] at h1
    exact ⟨ej.symm, Option.some.inj h1⟩
  · right
    have ej : j / 2 * 2 + 1 = j := by omega
    rw [ej, h] at h2
    exact ⟨ej.symm, Option.some.inj h2⟩
theorem dcells_congr {X Y X' Y' : Nat → Int} : ∀ {n : Nat}, (∀ k, k < n → X k = X' k ∧ Y k = Y' k) → dcells X Y n = dcells X' Y' n
  | 0, _ => rfl
  | n + 1, h => by
    unfold dcells
    rw [dcells_congr fun k hk => h k (by omega), (h n (by omega)).1, (h n (by omega)).2]
theorem PairR.of_own {w : World} {B n : Nat} {t : TypeId} {v : Value} {X Y : Nat → Int} (h : w.ownsRow B t 2 v n (dcells X Y n)) (hb : ∀ k, k < n → (-9223372036854775808 ≤ X k ∧ X k ≤ 9223372036854775807) ∧ -9223372036854775808 ≤ Y k ∧ Y k ≤ 9223372036854775807) : ∃ A c, v = .slice A n c ∧ PairR w A n c X Y := by
  have h1 := h.1
  rcases h.2 with ⟨e, h0⟩ | ⟨g, cap, cur, e, h2, h3, h4, h5, h6⟩
  · obtain rfl : n = 0 := by omega
    exact ⟨none, 0, e, fun _ => ⟨rfl, rfl⟩, Nat.le_refl _, Nat.zero_le _, fun k hk => absurd hk (Nat.not_lt_zero k)⟩
  · subst e
    have hg : g < w.heap.size := (Array.getElem?_eq_some_iff.1 h3).1
    refine ⟨some ⟨g, 0, none⟩, cap, rfl, fun e => (by cases e), h4, h5, fun k hk => ⟨⟨g, 0, none⟩, rfl, hg, ?_, ?_, (hb k hk).1, (hb k hk).2⟩⟩
    · have h7 := h.cells rfl (k * 2) _ (dcells_at X Y n k hk).1
      exact h7
    · have h7 := h.cells rfl (k * 2 + 1) _ (dcells_at X Y n k hk).2
      rw [← Go.Deep.add_add] at h7
      exact h7

/-- append of one pair to a row of the call's own. -/
theorem step_append_two {t e : TypeId} {i0 : TypeInfo} {z0 z1 : Value} (ht : Try.prog.underlying t = some (.slice e)) (hi0 : Try.prog.info? e = some i0) (hz0 : i0.zero = some (.agg #[z0, z1])) (hs0 : i0.size = 2) (hb0 : i0.bytes = 16) (hzs : (Value.agg #[z0, z1]).cells.size = 2)
    {ops : Array Oper} {rest : List Oper} {o : Oper} {a : Act} {Q : Exit → Act → World → Prop} (hgd : o.guard = none) (s x : Operand)
    (ho : o.op = .call { callee := .builtin .append, args := #[s, x], argTypes := #[t, t] })
    {w : World} {B : Nat} {v : Value} {n : Nat} {xs : List Value} (hs : a.eval s = v) (hown : w.ownsRow B e 2 v n xs) (y1 y2 : Int) (hx : a.eval x = .slice (some ⟨w.heap.size, 0, none⟩) 1 1) (hB : B ≤ w.heap.size) (hi : n ≤ 4194304)
    (h : ∀ v' w', Hid (w'.ownsRow B e 2 v' (n + 1) (xs ++ [.int .i64 y1, .int .i64 y2])) → Below B w w' → wpList Try.prog ops Q rest (a.put o.dst v') w') :
    wpList Try.prog ops Q (o :: rest) a (w.alloc (.cells #[.int .i64 y1, .int .i64 y2] e)) := by
  have hl := lies_new w e [.int .i64 y1, .int .i64 y2]
  refine wpList_append_own _ hgd s x t ho B e i0 (.agg #[z0, z1]) 2 16 ht hi0 hz0 hs0 hb0 hzs (by decide) v n xs hs (hown.alloc _) ⟨w.heap.size, 0, none⟩ 1 1 [.int .i64 y1, .int .i64 y2] hx rfl (fun j u hj => by
      rcases j with _ | _ | j
      · have hj : some _ = some u := hj
        cases hj
        exact hl.cell 0
      · have hj : some _ = some u := hj
        cases hj
        exact hl.cell 1
      · simp at hj) (fun u hu => by simp at hu; rcases hu with rfl | rfl <;> rfl) (by unfold maxLen; omega) (by omega) (by rw [size_alloc]; omega) (fun v' w' h2 h3 _ => ?_)
  exact h v' w' (Lib.hid h2) (((Below.refl _ _).alloc hB _).grown h3 (by rw [size_alloc]; omega) (fun k hk => (hown.lt k hk).1))
/-- append of all pairs of a slice to a row of the call's own. -/
theorem step_append_twos {t e : TypeId} {i0 : TypeInfo} {z0 z1 : Value} (ht : Try.prog.underlying t = some (.slice e)) (hi0 : Try.prog.info? e = some i0) (hz0 : i0.zero = some (.agg #[z0, z1])) (hs0 : i0.size = 2) (hb0 : i0.bytes = 16) (hzs : (Value.agg #[z0, z1]).cells.size = 2)
    {ops : Array Oper} {rest : List Oper} {o : Oper} {a : Act} {Q : Exit → Act → World → Prop} (hgd : o.guard = none) (s x : Operand)
    (ho : o.op = .call { callee := .builtin .append, args := #[s, x], argTypes := #[t, t] })
    {w : World} {B : Nat} {v : Value} {i : Nat} {xs : List Value} (hs : a.eval s = v) (hown : w.ownsRow B e 2 v i xs) {A : Option Addr} {n c : Nat} {X Y : Nat → Int} (hx : a.eval x = .slice A n c) {B' : Nat} (hA : A = none → n = 0 ∧ c = 0) (hW : PairI w B' A n X Y) (hB : B ≤ w.heap.size) (hi : i + n ≤ maxLen) (hi2 : (i + n) * 16 ≤ 140737488355328)
    (h : ∀ v' w', Hid (w'.ownsRow B e 2 v' (i + n) (xs ++ dcells X Y n)) → Below B w w' → wpList Try.prog ops Q rest (a.put o.dst v') w') :
    wpList Try.prog ops Q (o :: rest) a w := by
  rcases A with _ | ad
  · obtain ⟨rfl, rfl⟩ := hA rfl
    refine wpList_append_own_none hgd s x t ho B e i0 2 ht hi0 v i xs hs hown hx ?_
    refine h v w (Lib.hid ?_) (Below.refl _ _)
    show w.ownsRow B e 2 v i (xs ++ [])
    rw [List.append_nil]
    exact hown
  · refine wpList_append_own _ hgd s x t ho B e i0 (.agg #[z0, z1]) 2 16 ht hi0 hz0 hs0 hb0 hzs (by decide) v i xs hs hown ad n c (dcells X Y n) hx
      (by rw [dcells_length]) (fun j u hj => ?_) (dcells_one X Y n) hi hi2 hB (fun v' w' h2 h3 _ => ?_)
    · obtain ⟨k, hk, hk2⟩ := dcells_odd X Y n j u hj
      obtain ⟨ad', e, _, h1, h2, _⟩ := hW k hk
      cases e
      rcases hk2 with ⟨rfl, rfl⟩ | ⟨rfl, rfl⟩
      · exact h1
      · rw [← Go.Deep.add_add]
        exact h2
    · exact h v' w' (Lib.hid h2) ((Below.refl _ _).grown h3 hB (fun k hk => (hown.lt k hk).1))
end Go.Proofs.Ytddfaidfnmpnlaa
