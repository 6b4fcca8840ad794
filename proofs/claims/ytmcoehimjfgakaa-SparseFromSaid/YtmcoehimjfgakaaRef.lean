/- Contracts of the document's own answers for layer 1: which words are a list, and which numbers it has; whether two lists are the same. -/
import Derived.Test.YtmcoehimjfgakaaFirst
import Derived.Test.YtmcoehimjfgakaaLaw
import Derived.Deep.QuietTactic
import Derived.BigQuiet
import Derived.Deep.DeepCutAuto
import Derived.Deep.CutBlock
import Derived.Laws.AppendOwnNone
namespace Go.Proofs.Ytmcoehimjfgakaa
open Go.RowKit

theorem bit_num (x s : Nat) (hx : x < 2 ^ 64) : bits .and .u64 ((x : Int) / 2 ^ s) 1 = ((x.testBit s).toNat : Int) := by
  have h1 : (1 : Int) = ((1 : Nat) : Int) := rfl
  rw [shr_u, h1, and_u (Pl.div_lt_64 hx) (by decide), Nat.and_one_is_mod, ← Nat.shiftRight_eq_div_pow]
  congr 1
  have e := Nat.testBit_zero (x >>> s)
  rw [Nat.testBit_shiftRight, Nat.add_zero] at e
  rw [e]
  rcases Nat.mod_two_eq_zero_or_one (x >>> s) with h | h <;> simp [h]

/-- append of one word to a row of the call's own, as a step of the walk. -/
theorem step_append_word {ops : Array Oper} {rest : List Oper} {o : Oper} {a : Act} {Q : Exit → Act → World → Prop} (hgd : o.guard = none) (s x : Operand)
    (ho : o.op = .call { callee := .builtin .append, args := #[s, x], argTypes := #[33, 33] })
    {w : World} {B : Nat} {v : Value} {i : Nat} {xs : List Value} (hs : a.eval s = v) (hown : w.ownsRow B 43 1 v i xs) (y : Int) (hx : a.eval x = .slice (some ⟨w.heap.size, 0, none⟩) 1 1) (hB : B ≤ w.heap.size) (hi : i ≤ 4194304)
    (h : ∀ v' w', Hid (w'.ownsRow B 43 1 v' (i + 1) (xs ++ [.int .u64 y])) → Below B w w' → Hid (w.grownBy w' v.ownBlock) → wpList Try.prog ops Q rest (a.put o.dst v') w') :
    wpList Try.prog ops Q (o :: rest) a (w.alloc (.cells #[.int .u64 y] 43)) := by
  obtain ⟨i0, hi0, hz0, hs0, hb0⟩ := info_parts info_u64
  have hl := lies_new w 43 [.int .u64 y]
  refine wpList_append_own _ hgd s x 33 ho B 43 i0 (.int .u64 0) 1 8 Try.underlying33 hi0 hz0 hs0 hb0 rfl (by decide) v i xs hs (hown.alloc _) ⟨w.heap.size, 0, none⟩ 1 1 [.int .u64 y] hx rfl (fun j u hj => by
      cases j with
      | zero => simp at hj; subst hj; exact hl.cell 0
      | succ j => simp at hj) (fun u hu => by simp at hu; subst hu; rfl) (by unfold maxLen; omega) (by omega) (by rw [size_alloc]; omega) (fun v' w' h2 h3 _ => ?_)
  exact h v' w' h2 (((Below.refl _ _).alloc hB _).grown h3 (by rw [size_alloc]; omega) (fun k hk => (hown.lt k hk).1)) (grownBy_trans (World.grownBy_alloc w _ _) h3)

/-- the words of a slice that came in. -/
def wsOf (V : Nat → Nat) (n : Nat) : List Nat := (List.range n).map V
theorem wsOf_length (V : Nat → Nat) (n : Nat) : (wsOf V n).length = n := by unfold wsOf; simp
theorem wsOf_at (V : Nat → Nat) (n k : Nat) (h : k < n) : (wsOf V n).getD k 0 = V k := by
  unfold wsOf
  rw [List.getD_eq_getElem?_getD, List.getElem?_map, List.getElem?_range h]
  rfl
theorem Wds.small {w : World} {B : Nat} {A : Option Addr} {n : Nat} {V : Nat → Nat} (h : Wds w B A n V) : Pl.Small (wsOf V n) := by
  intro x hx
  unfold wsOf at hx
  obtain ⟨k, hk, rfl⟩ := List.mem_map.1 hx
  obtain ⟨_, _, _, _, hv⟩ := h k (List.mem_range.1 hk)
  exact hv
theorem Wds.named {w : World} {B : Nat} {A : Option Addr} {n : Nat} {V : Nat → Nat} (h : Wds w B A n V) : Wds w B A n (fun k => (wsOf V n).getD k 0) := fun k hk => by
  obtain ⟨ad, e, hb, hc, hv⟩ := h k hk
  refine ⟨ad, e, hb, ?_, ?_⟩
  · show w.cell? (ad.add k) = some (.int .u64 (((wsOf V n).getD k 0 : Nat) : Int))
    rw [wsOf_at V n k hk]; exact hc
  · show (wsOf V n).getD k 0 < 2 ^ 64
    rw [wsOf_at V n k hk]; exact hv

/-- a row of the call's own that lies from a block's head on. -/
structure Row (w : World) (B g n c : Nat) (ws : List Nat) : Prop where
  own : w.ownsRow B 43 1 (.slice (some ⟨g, 0, none⟩) n c) n (wcells ws)
theorem Row.at_ {w : World} {B g n c : Nat} {ws : List Nat} (h : Row w B g n c ws) (hn : n = ws.length) (k : Nat) (hk : k < n) : w.cell? ⟨g, k, none⟩ = some (.int .u64 ((ws.getD k 0 : Nat) : Int)) := by
  rw [h.own.cellAt k (by omega)]
  exact wcells_at ws k (by omega)
theorem Row.lt {w : World} {B g n c : Nat} {ws : List Nat} (h : Row w B g n c ws) : B ≤ g ∧ g < w.heap.size := h.own.lt g rfl
theorem Row.src {w : World} {B g n c : Nat} {ws : List Nat} (h : Row w B g n c ws) (hn : n = ws.length) : Src w g ws := ⟨h.lt.2, fun k hk => h.at_ hn k (by omega)⟩
theorem Row.free {w : World} {B g n c : Nat} {ws : List Nat} (h : Row w B g n c ws) (k : Nat) : w.frozen? ⟨g, k, none⟩ = false := h.own.frozenAt k
theorem Row.put {w : World} {B g n c : Nat} {ws : List Nat} (h : Row w B g n c ws) (k x : Nat) : Row (w.setCell ⟨g, k, none⟩ (.int .u64 (x : Int))) B g n c (ws.set k x) :=
  ⟨by rw [wcells_set]; exact (h.own.stored k _).1⟩
theorem Row.same {w w' : World} {B g n c : Nat} {ws : List Nat} (h : Row w B g n c ws) (e : w'.heap[g]? = w.heap[g]?) : Row w' B g n c ws := by
  refine ⟨⟨h.own.1, ?_⟩⟩
  rcases h.own.2 with ⟨h', _⟩ | ⟨g', cap, cur, h', hb, hg, rest⟩
  · simp at h'
  · have hgg : g' = g := by
      simp at h'
      exact h'.1.symm
    exact .inr ⟨g', cap, cur, h', hb, by rw [hgg, e, ← hgg]; exact hg, rest⟩
theorem Row.below {w w' : World} {B B' g n c : Nat} {ws : List Nat} (h : Row w B g n c ws) (hb : Below B' w w') (hg : g < B') : Row w' B g n c ws := h.same (hb.block g hg)

/-- append of all words of a slice to a new, empty one, as a step of the walk. -/
theorem step_append_words {ops : Array Oper} {rest : List Oper} {o : Oper} {a : Act} {Q : Exit → Act → World → Prop} (hgd : o.guard = none) (s x : Operand)
    (ho : o.op = .call { callee := .builtin .append, args := #[s, x], argTypes := #[33, 33] })
    {w : World} {B : Nat} {A : Option Addr} {n c : Nat} {V : Nat → Nat} (hs : a.eval s = .slice (some ⟨w.heap.size, 0, none⟩) 0 0) (hx : a.eval x = .slice A n c) (hB : B ≤ w.heap.size) (hn : n ≤ 4194304)
    (hA : A = none → n = 0 ∧ c = 0) (hW : Wds w w.heap.size A n V)
    (h : ∀ g c' w', Hid (Row w' B g n c' (wsOf V n)) → Below B w w' → Below w.heap.size w w' → wpList Try.prog ops Q rest (a.put o.dst (.slice (some ⟨g, 0, none⟩) n c')) w') :
    wpList Try.prog ops Q (o :: rest) a (w.alloc (.cells #[] 43)) := by
  obtain ⟨i0, hi0, hz0, hs0, hb0⟩ := info_parts info_u64
  have hown : (w.alloc (.cells #[] 43)).ownsRow w.heap.size 43 1 (.slice (some ⟨w.heap.size, 0, none⟩) 0 0) 0 [] := World.ownsRow_lit w #[] 0 (Nat.le_refl _) (Nat.zero_le _) rfl
  rcases A with _ | ad
  · obtain ⟨rfl, rfl⟩ := hA rfl
    refine wpList_append_own_none hgd s x 33 ho w.heap.size 43 i0 1 Try.underlying33 hi0 _ 0 [] hs hown hx ?_
    exact h w.heap.size 0 _ ⟨World.ownsRow_lit w #[] 0 hB (Nat.zero_le _) rfl⟩ ((Below.refl _ _).alloc hB _) ((Below.refl _ _).alloc (Nat.le_refl _) _)
  · refine wpList_append_own _ hgd s x 33 ho w.heap.size 43 i0 (.int .u64 0) 1 8 Try.underlying33 hi0 hz0 hs0 hb0 rfl (by decide) _ 0 [] hs hown ad n c (wcells (wsOf V n)) hx
      (by rw [wcells_length, wsOf_length]; omega) (fun j u hj => ?_) (wcells_one _) (by unfold maxLen; omega) (by omega) (by rw [size_alloc]; omega) (fun v' w' h2 h3 h4 => ?_)
    · have hjn : j < n := by
        have := (List.getElem?_eq_some_iff.1 hj).1
        rw [wcells_length, wsOf_length] at this
        exact this
      rw [wcells_at _ _ (by rw [wsOf_length]; exact hjn), wsOf_at V n j hjn] at hj
      obtain ⟨ad', e, hb, hc, _⟩ := hW j hjn
      cases e
      rw [← hj, ← hc]
      exact World.cell?_of_block (Below.heap_alloc w _ _ (by rw [add_block]; exact hb))
    · rw [List.nil_append, Nat.zero_add] at h2
      have hbw : Below w.heap.size w w' := ((Below.refl _ _).alloc (Nat.le_refl _) _).grown h3 (by rw [size_alloc]; omega) (fun k hk => by
        simp [Value.ownBlock] at hk
        omega)
      rcases h2.2 with ⟨rfl, _⟩ | ⟨g, cap, cur, rfl, hg, rest2⟩
      · exact absurd (h4.1 rfl).1 (by simp)
      · exact h g cap w' ⟨⟨h2.1, .inr ⟨g, cap, cur, rfl, Nat.le_trans hB hg, rest2⟩⟩⟩ (hbw.mono hB) hbw

/-- words that are no list: one of their bits behind the numbers is set, or they are too many or too few. -/
theorem just_no {ws : List Nat} {c : Nat} (hs : Pl.Small ws) (h : justB ws c = false) : ws.length ≠ (c + 63) / 64 ∨ ∃ b, c ≤ b ∧ b < 64 * ws.length ∧ Pl.bitAt ws b = true := by
  by_cases hl : ws.length = (c + 63) / 64
  · right
    unfold justB at h
    simp only [hl, decide_true, Bool.true_and, Bool.or_eq_false_iff, decide_eq_false_iff_not] at h
    obtain ⟨h0, hx⟩ := h
    rw [← hl] at hx
    obtain ⟨j, hj⟩ := Nat.exists_testBit_of_ne_zero hx
    rw [Pl.tb_div] at hj
    have hjs : c % 64 + j < 64 := by
      apply Nat.lt_of_not_le
      intro hge
      rw [Pl.tb_big (hs.at_ _) hge] at hj
      cases hj
    refine ⟨64 * (ws.length - 1) + (c % 64 + j), by omega, by omega, ?_⟩
    unfold Pl.bitAt
    have e1 : (64 * (ws.length - 1) + (c % 64 + j)) / 64 = ws.length - 1 := by omega
    have e2 : (64 * (ws.length - 1) + (c % 64 + j)) % 64 = c % 64 + j := by omega
    rw [e1, e2]
    exact hj
  · exact .inl hl

theorem bit_step (y k : Nat) : y / 2 ^ k = 2 * (y / 2 ^ (k + 1)) + (y.testBit k).toNat := by
  rw [Nat.toNat_testBit, Nat.pow_succ, ← Nat.div_div_eq_div_mul]
  omega
theorem wcells_snoc (x : Nat → Nat) (i : Nat) : wcells ((List.range (i + 1)).map x) = wcells ((List.range i).map x) ++ [.int .u64 ((x i : Nat) : Int)] := by
  unfold wcells
  rw [List.range_succ]
  simp

/-- what List leaves of words that are a list. -/
def ListPost (w : World) (n : Nat) (x : Nat → Nat) (e : Ending) (w' : World) : Prop :=
  ∃ v, e = .returned (.tuple #[v, .bool true]) ∧ w'.ownsRow w.heap.size 43 1 v n (wcells ((List.range n).map x)) ∧ Below w.heap.size w w'

set_option maxHeartbeats 800000 in
/-- two lists of words that are the same. -/
theorem same_yes (A1 A2 : Option Addr) (n c1 c2 : Nat) (V : Nat → Nat) (B : Nat) (w : World) (hn : n ≤ 8388608) (h1 : Wds w B A1 n V) (h2 : Wds w B A2 n V) :
    Calls Try.prog 19 #[.slice A1 n c1, .slice A2 n c2] w fun e w' => e = .returned (.bool true) ∧ Below w.heap.size w w' := by
  go_enter Try.func19, Try.ntmps19
  go_wp2_with fail
  go_loopw [13] (fun v wr => ∃ i : Nat, i ≤ n ∧ v = .int .i64 (i : Int) ∧ ∃ m, wr = w.drewN m) (fun v _ => n - (intOf v).toNat)
  case atStart => exact ⟨0, Nat.zero_le _, rfl, 0, rfl⟩
  case round =>
    obtain ⟨i, hi, rfl, m, rfl⟩ := hrel
    by_cases hlt : i < n
    · obtain ⟨a1, rfl, _, hV1, _⟩ := h1 i hlt
      obtain ⟨a2, rfl, _, hV2, _⟩ := h2 i hlt
      go_wp2_with fail
      go_quiet (fail)
      go_wp2_with fail
      go_roundw
      case rel => exact ⟨i + 1, by omega, by go_num, _, rfl⟩
      case measure => simp [intOf]; omega
    · go_wp2_with fail
      go_ret
      exact ⟨rfl, below_drewN' (Below.refl _ _) _⟩
end Go.Proofs.Ytmcoehimjfgakaa
