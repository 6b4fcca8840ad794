/- A map of ints by ints that the call made, as a function to options: look-ups and stores at the operation. -/
import Derived.Test.YtddfaidfnmpnlaaLaw
import Derived.Maps.OwnSet
import Derived.Deep.QuietTactic
namespace Go.Proofs.Ytddfaidfnmpnlaa
open Go.RowKit Go.Maps

theorem mapInt : Keyed Try.prog 3 := int_keyed Try.underlying3
theorem mapZero (w : World) : (zeroValue 3).run Try.prog w = .ok (.int .i64 0) w := by kernel_rfl
/-- block b is a map of at most k entries: at each number what g says. -/
def IMap (w : World) (b k : Nat) (g : Int → Option Int) : Prop :=
  ∃ D : DataW Unit, w.ownsMap Try.prog 3 (plainElem Try.prog 3) b k D ∧ ∀ x, (Lit.int .i64 x).wf = true → Maps.has D (.int .i64 x) = (g x).isSome ∧ ∀ y, g x = some y → D.atKey (.int .i64 x) (.lit (.int .i64 0)) = .lit (.int .i64 y)
/-- one more. -/
def putO (g : Int → Option Int) (q y : Int) : Int → Option Int := fun x => if x = q then some y else g x
theorem putO_at (g : Int → Option Int) (q y : Int) : putO g q y q = some y := if_pos rfl
theorem putO_off {g : Int → Option Int} {q y x : Int} (h : x ≠ q) : putO g q y x = g x := if_neg h
theorem imap_made (w : World) : IMap (w.alloc (.map #[] 0)) w.heap.size 0 (fun _ => none) :=
  ⟨_, World.ownsMap_made _ _ _ _, fun _ _ => ⟨rfl, fun _ h => by cases h⟩⟩
theorem IMap.lt {w : World} {b k : Nat} {g : Int → Option Int} (h : IMap w b k g) : b < w.heap.size := let ⟨_, h, _⟩ := h; h.lt
theorem IMap.kept {w w' : World} {b k : Nat} {g : Int → Option Int} {row : Option Nat} (h : IMap w b k g) (hg : w.grownBy w' row) (hne : some b ≠ row) : IMap w' b k g := let ⟨D, h, r⟩ := h; ⟨D, h.kept hg hne, r⟩
theorem IMap.drewN {w : World} {b k : Nat} {g : Int → Option Int} (h : IMap w b k g) (q : Nat) : IMap (w.drewN q) b k g := let ⟨D, h, r⟩ := h; ⟨D, h, r⟩
theorem IMap.same {w w' : World} {b k : Nat} {g : Int → Option Int} (h : IMap w b k g) (e : w'.heap[b]? = w.heap[b]?) : IMap w' b k g := by
  obtain ⟨D, ⟨es, clock, hb, r⟩, h2⟩ := h
  exact ⟨D, ⟨es, clock, e.trans hb, r⟩, h2⟩
theorem IMap.mono {w : World} {b k k' : Nat} {g : Int → Option Int} (h : IMap w b k g) (hk : k ≤ k') : IMap w b k' g := let ⟨D, h, r⟩ := h; ⟨D, h.mono hk, r⟩
theorem keyLit_int (x : Int) : WideAt.IsKeyLit (.int .i64 x) := trivial

section
variable {ops : Array Oper} {rest : List Oper} {o : Oper} {a : Act} {Q : Exit → Act → World → Prop}
theorem wpList_imap_hit (w : World) (hg : o.guard = none) (m x : Operand) (t : TypeId) (hop : o.op = Op.lookup t m x true) (ht : Try.prog.underlying t = some (.map 3 3)) (b k : Nat) (g : Int → Option Int) (hm : a.eval m = .map (some b)) (hown : IMap w b k g)
    (q y : Int) (hx : a.eval x = .int .i64 q) (hw : (Lit.int .i64 q).wf = true) (hq : g q = some y)
    (hK : wpList Try.prog ops Q rest (a.put o.dst (.tuple #[.int .i64 y, .bool true])) w) : wpList Try.prog ops Q (o :: rest) a w := by
  obtain ⟨D, hD, hr⟩ := hown
  obtain ⟨h1, h2⟩ := hr q hw
  refine wpList_lookup_own_ok_int w hg m x t hop 3 3 .i64 mapInt ht Try.underlying3 (mapZero w) b k D hm hD _ _ hx (keyOf_int_mk Try.underlying3 hw) ?_
  intro c hc _
  rw [h2 y hq] at hc
  cases hc
  rw [h1, hq]
  exact hK
theorem wpList_imap_miss (w : World) (hg : o.guard = none) (m x : Operand) (t : TypeId) (hop : o.op = Op.lookup t m x true) (ht : Try.prog.underlying t = some (.map 3 3)) (b k : Nat) (g : Int → Option Int) (hm : a.eval m = .map (some b)) (hown : IMap w b k g)
    (q : Int) (hx : a.eval x = .int .i64 q) (hw : (Lit.int .i64 q).wf = true) (hq : g q = none)
    (hK : ∀ c : Int, wpList Try.prog ops Q rest (a.put o.dst (.tuple #[.int .i64 c, .bool false])) w) : wpList Try.prog ops Q (o :: rest) a w := by
  obtain ⟨D, hD, hr⟩ := hown
  obtain ⟨h1, h2⟩ := hr q hw
  refine wpList_lookup_own_ok_int w hg m x t hop 3 3 .i64 mapInt ht Try.underlying3 (mapZero w) b k D hm hD _ _ hx (keyOf_int_mk Try.underlying3 hw) ?_
  intro c _ _
  rw [h1, hq]
  exact hK c
theorem wpList_imap_put (w : World) (hg : o.guard = none) (m x v : Operand) (t : TypeId) (hop : o.op = Op.mapUpdate t m x v) (ht : Try.prog.underlying t = some (.map 3 3)) (b k : Nat) (g : Int → Option Int) (hm : a.eval m = .map (some b)) (hown : IMap w b k g) (hk : k < maxLen)
    (q y : Int) (hx : a.eval x = .int .i64 q) (hv : a.eval v = .int .i64 y) (hw : (Lit.int .i64 q).wf = true) (hwy : (Lit.int .i64 y).wf = true)
    (hK : ∀ w', IMap w' b (k + 1) (putO g q y) → w.grownBy w' (some b) → wpList Try.prog ops Q rest (a.put o.dst undef) w') : wpList Try.prog ops Q (o :: rest) a w := by
  obtain ⟨D, hD, hr⟩ := hown
  refine wpList_mapUpdate_own w hg m x v t hop 3 3 mapInt ht _ b k D hm hD hk _ _ _ hx hv (keyOf_int_mk Try.underlying3 hw) _ [] (plainElem_int Try.underlying3 hwy) ?_
  intro w1 hown1 hgrow1
  refine hK w1 ⟨_, hown1, fun z hz => ?_⟩ hgrow1
  by_cases e : z = q
  · subst e
    rw [has_put_same hD.isMap (keyLit_int z), putO_at]
    exact ⟨rfl, fun y' hy' => by cases hy'; exact atKey_put_same hD.isMap (keyLit_int z) _ _⟩
  · have hne : (Lit.int IntKind.i64 z) ≠ Lit.int IntKind.i64 q := fun h => e (by injection h)
    rw [has_put_other hne, putO_off e]
    exact ⟨(hr z hz).1, fun y' hy' => by rw [atKey_put_other hne]; exact (hr z hz).2 y' hy'⟩
end
end Go.Proofs.Ytddfaidfnmpnlaa
