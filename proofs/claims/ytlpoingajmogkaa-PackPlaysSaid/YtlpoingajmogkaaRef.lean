/- Contracts of the document's own answers for layer 1: which words are a list, and which numbers it has; whether two lists are the same. -/
import Derived.Test.YtlpoingajmogkaaFirst
import Derived.Test.YtlpoingajmogkaaLaw
import Derived.Deep.QuietTactic
import Derived.BigQuiet
import Derived.Deep.DeepCutAuto
import Derived.Deep.CutBlock
import Derived.Laws.AppendOwnNone
namespace Go.Proofs.Ytlpoingajmogkaa
open Go.RowKit

theorem bit_num (x s : Nat) (hx : x < 2 ^ 64) : bits .and .u64 ((x : Int) / 2 ^ s) 1 = ((x.testBit s).toNat : Int) := by
  have h1 : (1 : Int) = ((1 : Nat) : Int) := rfl
  rw [shr_u, h1, and_u (Pl.div_lt_64 hx) (by decide), Nat.and_one_is_mod, ← Nat.shiftRight_eq_div_pow]
  congr 1
  have e := Nat.testBit_zero (x >>> s)
  rw [Nat.testBit_shiftRight, Nat.add_zero] at e
  rw [e]
  rcases Nat.mod_two_eq_zero_or_one (x >>> s) with h | h <;> simp [h]

set_option maxHeartbeats 400000 in
theorem right_any (width n : Int) (w : World) :
    Calls Try.prog 11 #[.int .i64 width, .int .i64 n] w fun e w' => e = .returned (.bool (rightB width n)) ∧ w = w' := by
  unfold rightB
  by_cases h1 : 1 ≤ width <;> by_cases h2 : width ≤ 64 <;> by_cases h3 : 0 ≤ n <;> by_cases h4 : n ≤ 4194304
  all_goals
    go_enter Try.func11, Try.ntmps11
    go_wp2
    go_ret
    simp [h1, h2, h3, h4]

/-- append of one word to a row of the call's own, as a step of the walk. -/
theorem step_append_word {ops : Array Oper} {rest : List Oper} {o : Oper} {a : Act} {Q : Exit → Act → World → Prop} (hgd : o.guard = none) (s x : Operand)
    (ho : o.op = .call { callee := .builtin .append, args := #[s, x], argTypes := #[32, 32] })
    {w : World} {B : Nat} {v : Value} {i : Nat} {xs : List Value} (hs : a.eval s = v) (hown : w.ownsRow B 30 1 v i xs) (y : Int) (hx : a.eval x = .slice (some ⟨w.heap.size, 0, none⟩) 1 1) (hB : B ≤ w.heap.size) (hi : i ≤ 4194304)
    (h : ∀ v' w', Hid (w'.ownsRow B 30 1 v' (i + 1) (xs ++ [.int .u64 y])) → Below B w w' → Hid (w.grownBy w' v.ownBlock) → wpList Try.prog ops Q rest (a.put o.dst v') w') :
    wpList Try.prog ops Q (o :: rest) a (w.alloc (.cells #[.int .u64 y] 30)) := by
  obtain ⟨i0, hi0, hz0, hs0, hb0⟩ := info_parts info_u64
  have hl := lies_new w 30 [.int .u64 y]
  refine wpList_append_own _ hgd s x 32 ho B 30 i0 (.int .u64 0) 1 8 Try.underlying32 hi0 hz0 hs0 hb0 rfl (by decide) v i xs hs (hown.alloc _) ⟨w.heap.size, 0, none⟩ 1 1 [.int .u64 y] hx rfl (fun j u hj => by
      cases j with
      | zero => simp at hj; subst hj; exact hl.cell 0
      | succ j => simp at hj) (fun u hu => by simp at hu; subst hu; rfl) (by unfold maxLen; omega) (by omega) (by rw [size_alloc]; omega) (fun v' w' h2 h3 _ => ?_)
  exact h v' w' h2 (((Below.refl _ _).alloc hB _).grown h3 (by rw [size_alloc]; omega) (fun k hk => (hown.lt k hk).1)) (grownBy_trans (World.grownBy_alloc w _ _) h3)

/-- the words of a slice that came in. -/
def wsOf (V : Nat → Nat) (n : Nat) : List Nat := (List.range n).map V
theorem wsOf_length (V : Nat → Nat) (n : Nat) : (wsOf V n).length = n := by unfold wsOf; simp
theorem wsOf_at (V : Nat → Nat) (n k : Nat) (h : k < n) : (wsOf V n).getD k 0 = V k := by
  unfold wsOf
  rw [List.getD_eq_getElem?_getD, List.getElem?_map, List.getElem?_range h]
  rfl
theorem Wds.small {w : World} {B : Nat} {A : Option Addr} {n : Nat} {V : Nat → Nat} (h : Wds w B A n V) : Pl.Small (wsOf V n) := by
  intro x hx
  unfold wsOf at hx
  obtain ⟨k, hk, rfl⟩ := List.mem_map.1 hx
  obtain ⟨_, _, _, _, hv⟩ := h k (List.mem_range.1 hk)
  exact hv
theorem Wds.named {w : World} {B : Nat} {A : Option Addr} {n : Nat} {V : Nat → Nat} (h : Wds w B A n V) : Wds w B A n (fun k => (wsOf V n).getD k 0) := fun k hk => by
  obtain ⟨ad, e, hb, hc, hv⟩ := h k hk
  refine ⟨ad, e, hb, ?_, ?_⟩
  · show w.cell? (ad.add k) = some (.int .u64 (((wsOf V n).getD k 0 : Nat) : Int))
    rw [wsOf_at V n k hk]; exact hc
  · show (wsOf V n).getD k 0 < 2 ^ 64
    rw [wsOf_at V n k hk]; exact hv

/-- a row of the call's own that lies from a block's head on. -/
structure Row (w : World) (B g n c : Nat) (ws : List Nat) : Prop where
  own : w.ownsRow B 30 1 (.slice (some ⟨g, 0, none⟩) n c) n (wcells ws)
theorem Row.at_ {w : World} {B g n c : Nat} {ws : List Nat} (h : Row w B g n c ws) (hn : n = ws.length) (k : Nat) (hk : k < n) : w.cell? ⟨g, k, none⟩ = some (.int .u64 ((ws.getD k 0 : Nat) : Int)) := by
  rw [h.own.cellAt k (by omega)]
  exact wcells_at ws k (by omega)
theorem Row.lt {w : World} {B g n c : Nat} {ws : List Nat} (h : Row w B g n c ws) : B ≤ g ∧ g < w.heap.size := h.own.lt g rfl
theorem Row.src {w : World} {B g n c : Nat} {ws : List Nat} (h : Row w B g n c ws) (hn : n = ws.length) : Src w g ws := ⟨h.lt.2, fun k hk => h.at_ hn k (by omega)⟩
theorem Row.free {w : World} {B g n c : Nat} {ws : List Nat} (h : Row w B g n c ws) (k : Nat) : w.frozen? ⟨g, k, none⟩ = false := h.own.frozenAt k
theorem Row.put {w : World} {B g n c : Nat} {ws : List Nat} (h : Row w B g n c ws) (k x : Nat) : Row (w.setCell ⟨g, k, none⟩ (.int .u64 (x : Int))) B g n c (ws.set k x) :=
  ⟨by rw [wcells_set]; exact (h.own.stored k _).1⟩
theorem Row.same {w w' : World} {B g n c : Nat} {ws : List Nat} (h : Row w B g n c ws) (e : w'.heap[g]? = w.heap[g]?) : Row w' B g n c ws := by
  refine ⟨⟨h.own.1, ?_⟩⟩
  rcases h.own.2 with ⟨h', _⟩ | ⟨g', cap, cur, h', hb, hg, rest⟩
  · simp at h'
  · have hgg : g' = g := by
      simp at h'
      exact h'.1.symm
    exact .inr ⟨g', cap, cur, h', hb, by rw [hgg, e, ← hgg]; exact hg, rest⟩
theorem Row.below {w w' : World} {B B' g n c : Nat} {ws : List Nat} (h : Row w B g n c ws) (hb : Below B' w w') (hg : g < B') : Row w' B g n c ws := h.same (hb.block g hg)

/-- append of all words of a slice to a new, empty one, as a step of the walk. -/
theorem step_append_words {ops : Array Oper} {rest : List Oper} {o : Oper} {a : Act} {Q : Exit → Act → World → Prop} (hgd : o.guard = none) (s x : Operand)
    (ho : o.op = .call { callee := .builtin .append, args := #[s, x], argTypes := #[32, 32] })
    {w : World} {B : Nat} {A : Option Addr} {n c : Nat} {V : Nat → Nat} (hs : a.eval s = .slice (some ⟨w.heap.size, 0, none⟩) 0 0) (hx : a.eval x = .slice A n c) (hB : B ≤ w.heap.size) (hn : n ≤ 4194304)
    (hA : A = none → n = 0 ∧ c = 0) (hW : Wds w w.heap.size A n V)
    (h : ∀ g c' w', Hid (Row w' B g n c' (wsOf V n)) → Below B w w' → Below w.heap.size w w' → wpList Try.prog ops Q rest (a.put o.dst (.slice (some ⟨g, 0, none⟩) n c')) w') :
    wpList Try.prog ops Q (o :: rest) a (w.alloc (.cells #[] 30)) := by
  obtain ⟨i0, hi0, hz0, hs0, hb0⟩ := info_parts info_u64
  have hown : (w.alloc (.cells #[] 30)).ownsRow w.heap.size 30 1 (.slice (some ⟨w.heap.size, 0, none⟩) 0 0) 0 [] := World.ownsRow_lit w #[] 0 (Nat.le_refl _) (Nat.zero_le _) rfl
  rcases A with _ | ad
  · obtain ⟨rfl, rfl⟩ := hA rfl
    refine wpList_append_own_none hgd s x 32 ho w.heap.size 30 i0 1 Try.underlying32 hi0 _ 0 [] hs hown hx ?_
    exact h w.heap.size 0 _ ⟨World.ownsRow_lit w #[] 0 hB (Nat.zero_le _) rfl⟩ ((Below.refl _ _).alloc hB _) ((Below.refl _ _).alloc (Nat.le_refl _) _)
  · refine wpList_append_own _ hgd s x 32 ho w.heap.size 30 i0 (.int .u64 0) 1 8 Try.underlying32 hi0 hz0 hs0 hb0 rfl (by decide) _ 0 [] hs hown ad n c (wcells (wsOf V n)) hx
      (by rw [wcells_length, wsOf_length]; omega) (fun j u hj => ?_) (wcells_one _) (by unfold maxLen; omega) (by omega) (by rw [size_alloc]; omega) (fun v' w' h2 h3 h4 => ?_)
    · have hjn : j < n := by
        have := (List.getElem?_eq_some_iff.1 hj).1
        rw [wcells_length, wsOf_length] at this
        exact this
      rw [wcells_at _ _ (by rw [wsOf_length]; exact hjn), wsOf_at V n j hjn] at hj
      obtain ⟨ad', e, hb, hc, _⟩ := hW j hjn
      cases e
      rw [← hj, ← hc]
      exact World.cell?_of_block (Below.heap_alloc w _ _ (by rw [add_block]; exact hb))
    · rw [List.nil_append, Nat.zero_add] at h2
      have hbw : Below w.heap.size w w' := ((Below.refl _ _).alloc (Nat.le_refl _) _).grown h3 (by rw [size_alloc]; omega) (fun k hk => by
        simp [Value.ownBlock] at hk
        omega)
      rcases h2.2 with ⟨rfl, _⟩ | ⟨g, cap, cur, rfl, hg, rest2⟩
      · exact absurd (h4.1 rfl).1 (by simp)
      · exact h g cap w' ⟨⟨h2.1, .inr ⟨g, cap, cur, rfl, Nat.le_trans hB hg, rest2⟩⟩⟩ (hbw.mono hB) hbw

/-- words that are no list: one of their bits behind the numbers is set, or they are too many or too few. -/
theorem just_no {ws : List Nat} {c : Nat} (hs : Pl.Small ws) (h : justB ws c = false) : ws.length ≠ (c + 63) / 64 ∨ ∃ b, c ≤ b ∧ b < 64 * ws.length ∧ Pl.bitAt ws b = true := by
  by_cases hl : ws.length = (c + 63) / 64
  · right
    unfold justB at h
    simp only [hl, decide_true, Bool.true_and, Bool.or_eq_false_iff, decide_eq_false_iff_not] at h
    obtain ⟨h0, hx⟩ := h
    rw [← hl] at hx
    obtain ⟨j, hj⟩ := Nat.exists_testBit_of_ne_zero hx
    rw [Pl.tb_div] at hj
    have hjs : c % 64 + j < 64 := by
      apply Nat.lt_of_not_le
      intro hge
      rw [Pl.tb_big (hs.at_ _) hge] at hj
      cases hj
    refine ⟨64 * (ws.length - 1) + (c % 64 + j), by omega, by omega, ?_⟩
    unfold Pl.bitAt
    have e1 : (64 * (ws.length - 1) + (c % 64 + j)) / 64 = ws.length - 1 := by omega
    have e2 : (64 * (ws.length - 1) + (c % 64 + j)) % 64 = c % 64 + j := by omega
    rw [e1, e2]
    exact hj
  · exact .inl hl

set_option maxHeartbeats 800000 in
theorem list_no (width n : Nat) (A : Option Addr) (cp : Nat) (ws : List Nat) (w : World) (h64 : width ≤ 64) (hn : n ≤ 3000) (hs : Pl.Small ws) (hL : ws.length ≤ 2000) (ho : Wds w w.heap.size A ws.length (fun k => ws.getD k 0)) (hj : justB ws (width * n) = false) :
    Calls Try.prog 22 #[.int .i64 width, .int .i64 n, .slice A ws.length cp] w fun e w' => e = .returned (.tuple #[.slice none 0 0, .bool false]) ∧ w = w' := by
  obtain ⟨c, hc⟩ : ∃ c, width * n = c := ⟨_, rfl⟩
  have hcb : c ≤ 64 * 3000 := by rw [← hc]; exact Nat.mul_le_mul h64 hn
  have hC : (width : Int) * (n : Int) = (c : Int) := by rw [← hc]; exact (Int.natCast_mul _ _).symm
  rw [hc] at hj
  have hJ := just_no hs hj
  obtain ⟨L, hLL⟩ : ∃ L, ws.length = L := ⟨_, rfl⟩
  rw [hLL] at hJ hL ho ⊢
  clear hj hLL hc
  by_cases t1 : L * 64 < c
  · clear hJ ho
    go_enter Try.func22, Try.ntmps22
    go_wp2
    go_ret2
    exact ⟨rfl, rfl⟩
  · by_cases t2 : 0 < L ∧ c ≤ (L - 1) * 64
    · obtain ⟨t2, t3⟩ := t2
      clear hJ ho
      go_enter Try.func22, Try.ntmps22
      go_wp2
      go_ret2
      exact ⟨rfl, rfl⟩
    · rcases hJ with hJ | ⟨b0, hb1, hb2, hb3⟩
      · exact absurd (show L = (c + 63) / 64 by omega) hJ
      · have t2' : 0 < L → ((L : Int) - 1) * 64 < (c : Int) := by omega
        have t3 : 0 < L := by omega
        have t4 := t2' t3
        have HB := Lib.hid hb3
        clear t2 t2' hb3
        go_enter Try.func22, Try.ntmps22
        go_wp2_with fail
        go_loop [8] (fun v => ∃ i : Nat, c ≤ i ∧ i ≤ b0 ∧ v = .int .i64 (i : Int)) (fun v => 64 * L - (intOf v).toNat)
        case atStart => exact ⟨c, Nat.le_refl _, hb1, rfl⟩
        case round =>
          obtain ⟨i, hi1, hi2, rfl⟩ := hrel
          obtain ⟨ad, rfl, had, hV0, hV64⟩ := ho (i / 64) (by omega)
          obtain ⟨x, hx⟩ : ∃ x, ws.getD (i / 64) 0 = x := ⟨_, rfl⟩
          have hV : w.cell? (ad.add (i / 64)) = some (.int .u64 ((ws.getD (i / 64) 0 : Nat) : Int)) := hV0
          rw [hx] at hV
          have hx64 : x < 2 ^ 64 := by rw [← hx]; exact hs.at_ _
          have hbit : Pl.bitAt ws i = x.testBit (i % 64) := by unfold Pl.bitAt; rw [hx]
          have hbn := bit_num x (i % 64) hx64
          by_cases hset : Pl.bitAt ws i = true
          · have hb : bits .and .u64 ((x : Int) / 2 ^ (i % 64)) 1 = 1 := by rw [hbn, ← hbit, hset]; rfl
            clear hbn hset hbit hx ho hV64 hV0
            go_wp2_with fail
            go_ret2
            exact ⟨rfl, rfl⟩
          · have hb : bits .and .u64 ((x : Int) / 2 ^ (i % 64)) 1 = 0 := by
              rw [hbn, ← hbit]
              simp only [Bool.not_eq_true] at hset
              rw [hset]; rfl
            have hne : i ≠ b0 := by rintro rfl; exact hset HB.out
            clear hbn hset hbit hx ho hV64 hV0
            go_wp2_with fail
            go_round
            case rel => exact ⟨i + 1, by omega, by omega, by go_num⟩
            case measure => simp [intOf]; omega

theorem bit_step (y k : Nat) : y / 2 ^ k = 2 * (y / 2 ^ (k + 1)) + (y.testBit k).toNat := by
  rw [Nat.toNat_testBit, Nat.pow_succ, ← Nat.div_div_eq_div_mul]
  omega
theorem wcells_snoc (x : Nat → Nat) (i : Nat) : wcells ((List.range (i + 1)).map x) = wcells ((List.range i).map x) ++ [.int .u64 ((x i : Nat) : Int)] := by
  unfold wcells
  rw [List.range_succ]
  simp

/-- what List leaves of words that are a list. -/
def ListPost (w : World) (n : Nat) (x : Nat → Nat) (e : Ending) (w' : World) : Prop :=
  ∃ v, e = .returned (.tuple #[v, .bool true]) ∧ w'.ownsRow w.heap.size 30 1 v n (wcells ((List.range n).map x)) ∧ Below w.heap.size w w'

set_option maxHeartbeats 1600000 in
theorem list_pos (x : Nat → Nat) (width n : Nat) (A : Option Addr) (cp : Nat) (ws : List Nat) (w : World) (hn : n ≤ 3000) (hL : ws.length ≤ 2000) (ho : Wds w w.heap.size A ws.length (fun k => ws.getD k 0)) (hh : Pl.Holds ws width n x) (hpos : 0 < ws.length) :
    Calls Try.prog 22 #[.int .i64 width, .int .i64 n, .slice A ws.length cp] w (ListPost w n x) := by
  have h1 := hh.w1
  have h64 := hh.w64
  obtain ⟨c, hc⟩ : ∃ c, width * n = c := ⟨_, rfl⟩
  have hcb : c ≤ 64 * 3000 := by rw [← hc]; exact Nat.mul_le_mul h64 hn
  have hC : (width : Int) * (n : Int) = (c : Int) := by rw [← hc]; exact (Int.natCast_mul _ _).symm
  obtain ⟨L, hLL⟩ : ∃ L, ws.length = L := ⟨_, rfl⟩
  have hlen : L = (c + 63) / 64 := by rw [← hLL, ← hc, Nat.mul_comm]; exact hh.len
  have HBe : Hid (∀ b, c ≤ b → Pl.bitAt ws b = false) := by rw [← hc, Nat.mul_comm]; exact Lib.hid hh.behind
  rw [hLL] at hL ho hpos ⊢
  have t1 : c ≤ L * 64 := by omega
  have t2 : ((L : Int) - 1) * 64 < (c : Int) := by omega
  have HLen := Lib.hid hlen
  have HC := Lib.hid hc
  have HO := Lib.hid ho
  clear hLL hc hlen ho
  go_enter Try.func22, Try.ntmps22
  go_wp2_with fail
  go_loop [8] (fun v => ∃ i : Nat, c ≤ i ∧ i ≤ 64 * L ∧ v = .int .i64 (i : Int)) (fun v => 64 * L - (intOf v).toNat)
  case atStart => exact ⟨c, Nat.le_refl _, by omega, rfl⟩
  case round =>
    obtain ⟨i, hi1, hi2, rfl⟩ := hrel
    by_cases hlt : i < 64 * L
    · obtain ⟨ad, rfl, had, hV0, hV64⟩ := HO.out (i / 64) (by omega)
      obtain ⟨y, hy⟩ : ∃ y, ws.getD (i / 64) 0 = y := ⟨_, rfl⟩
      have hV : w.cell? (ad.add (i / 64)) = some (.int .u64 ((ws.getD (i / 64) 0 : Nat) : Int)) := hV0
      rw [hy] at hV
      have hy64 : y < 2 ^ 64 := by rw [← hy]; exact hh.small.at_ _
      have hbit : Pl.bitAt ws i = y.testBit (i % 64) := by unfold Pl.bitAt; rw [hy]
      have hb : bits .and .u64 ((y : Int) / 2 ^ (i % 64)) 1 = 0 := by
        rw [bit_num y (i % 64) hy64, ← hbit, HBe.out i hi1]; rfl
      clear hbit hy hV64 hV0 t2
      go_wp2_with fail
      go_round
      case rel => exact ⟨i + 1, by omega, by omega, by go_num⟩
      case measure => simp [intOf]; omega
    · clear t2
      go_wp2_with fail
      go_loopw [9, 10] (fun u v wr => ∃ i : Nat, i ≤ n ∧ v = .int .i64 (i : Int) ∧ wr.ownsRow w.heap.size 30 1 u i (wcells ((List.range i).map x)) ∧ Below w.heap.size w wr) (fun _ v _ => n - (intOf v).toNat)
      case atStart => exact ⟨0, Nat.zero_le _, rfl, World.ownsRow_nil _ _ _ _, Below.refl _ _⟩
      case round =>
        obtain ⟨j, hj, rfl, hown, hB⟩ := hrel
        by_cases hjn : j < n
        · obtain ⟨p, hp⟩ : ∃ p, j * width = p := ⟨_, rfl⟩
          have hP : (j : Int) * (width : Int) = (p : Int) := by rw [← hp]; exact (Int.natCast_mul _ _).symm
          have hroom := Pl.mul_room (width := width) hjn
          have hcm : n * width = c := by rw [Nat.mul_comm]; exact HC.out
          rw [hp, hcm] at hroom
          obtain ⟨y, hy⟩ : ∃ y, x j = y := ⟨_, rfl⟩
          have hyw : y < 2 ^ width := by rw [← hy]; exact hh.fits j hjn
          have hy64 : y < 2 ^ 64 := Nat.lt_of_lt_of_le hyw (Pl.two_pow_le_64 h64)
          have HBits : Hid (∀ k, k < width → Pl.bitAt ws (p + k) = y.testBit k) := by
            intro k hk
            rw [← hp, ← hy]
            exact hh.bits j k hjn hk
          have HY := Lib.hid hy
          have HOr := Lib.hid (HO.out.below hB)
          have HOwn := Lib.hid hown
          have HYw := Lib.hid hyw
          have HY64 := Lib.hid hy64
          clear hy hp hcm hyw hy64
          go_wp2_with fail
          obtain ⟨wo, rfl⟩ : ∃ wo : World, wo = wr := ⟨_, rfl⟩
          go_loop [11, 12, 13] (fun u v _ => ∃ kk : Nat, kk ≤ width ∧ v = .int .i64 ((kk : Int) - 1) ∧ u = .int .u64 ((y / 2 ^ kk : Nat) : Int)) (fun _ v _ => (intOf v + 1).toNat)
          case atStart => exact ⟨width, Nat.le_refl _, rfl, by rw [Nat.div_eq_of_lt HYw.out]; rfl⟩
          case round =>
            obtain ⟨kk, hkk, rfl, rfl⟩ := hrel
            rcases kk with _ | k
            · rw [Nat.pow_zero, Nat.div_one]
              have e0 : ((0 : Nat) : Int) - 1 = -1 := rfl
              rw [e0]
              have hBs := hB.size
              have hjs : j ≤ 4194304 := by omega
              clear e0
              go_wp2_with (at_builtin; refine step_append_word rfl (.tmp 86) (.tmp 88) rfl rfl HOwn.out (y : Int) rfl hBs hjs ?_; intro v' w2 HO2 hb2 _)
              go_roundw
              case rel =>
                refine ⟨j + 1, by omega, by go_num, ?_, hB.trans hb2⟩
                rw [wcells_snoc, HY.out]
                exact HO2.out
              case measure => simp [intOf]; omega
            · have e1 : ((k + 1 : Nat) : Int) - 1 = (k : Int) := by omega
              rw [e1]
              have hst := bit_step y k
              have hz63 : y / 2 ^ (k + 1) ≤ 9223372036854775807 := by
                have hy := HY64.out
                rw [Nat.pow_succ, ← Nat.div_div_eq_div_mul]
                have := Nat.div_le_self y (2 ^ k)
                omega
              obtain ⟨z, hz⟩ : ∃ z, y / 2 ^ (k + 1) = z := ⟨_, rfl⟩
              rw [hz] at hst hz63 ⊢
              obtain ⟨t, ht⟩ : ∃ t, (y.testBit k).toNat = t := ⟨_, rfl⟩
              have ht1 : t ≤ 1 := by rw [← ht]; cases y.testBit k <;> decide
              rw [ht] at hst
              obtain ⟨ad, rfl, had, hV0, hV64⟩ := HOr.out ((p + k) / 64) (by have := HLen.out; omega)
              obtain ⟨q, hq⟩ : ∃ q, ws.getD ((p + k) / 64) 0 = q := ⟨_, rfl⟩
              have hV : wo.cell? (ad.add ((p + k) / 64)) = some (.int .u64 ((ws.getD ((p + k) / 64) 0 : Nat) : Int)) := hV0
              rw [hq] at hV
              have hq64 : q < 2 ^ 64 := by rw [← hq]; exact hh.small.at_ _
              have hb : bits .and .u64 ((q : Int) / 2 ^ ((p + k) % 64)) 1 = (t : Int) := by
                rw [bit_num q _ hq64, ← ht, ← HBits.out k (by omega)]
                unfold Pl.bitAt
                rw [hq]
              have HSt := Lib.hid hst
              clear e1 hst hz ht hV0 hV64 hq hq64
              go_wp2_with fail
              go_round
              case rel => exact ⟨k, by omega, rfl, by rw [HSt.out]; go_num⟩
              case measure => simp only [intOf]; omega
        · have hjn2 : j = n := by omega
          subst hjn2
          clear HO HBe
          go_wp2_with fail
          go_ret2
          exact ⟨_, rfl, hown, hB⟩

set_option maxHeartbeats 800000 in
theorem list_zero (x : Nat → Nat) (width : Nat) (A : Option Addr) (cp : Nat) (w : World) :
    Calls Try.prog 22 #[.int .i64 width, .int .i64 0, .slice A 0 cp] w (ListPost w 0 x) := by
  go_enter Try.func22, Try.ntmps22
  go_wp2_with fail
  go_loop [8] (fun v => v = .int .i64 0) (fun _ => 0)
  case atStart => rfl
  case round =>
    subst hrel
    go_wp2_with fail
    go_loop [9, 10] (fun u v => u = .slice none 0 0 ∧ v = .int .i64 0) (fun _ _ => 0)
    case atStart => exact ⟨rfl, rfl⟩
    case round =>
      obtain ⟨rfl, rfl⟩ := hrel
      go_wp2_with fail
      go_ret2
      exact ⟨_, rfl, World.ownsRow_nil _ _ _ _, Below.refl _ _⟩

/-- words that are a list. -/
theorem list_yes (x : Nat → Nat) (width n : Nat) (A : Option Addr) (cp : Nat) (ws : List Nat) (w : World) (hn : n ≤ 3000) (hL : ws.length ≤ 2000) (ho : Wds w w.heap.size A ws.length (fun k => ws.getD k 0)) (hh : Pl.Holds ws width n x) :
    Calls Try.prog 22 #[.int .i64 width, .int .i64 n, .slice A ws.length cp] w (ListPost w n x) := by
  by_cases hpos : 0 < ws.length
  · exact list_pos x width n A cp ws w hn hL ho hh hpos
  · have h0 : ws.length = 0 := by omega
    have hl := hh.len
    have hn0 : n = 0 := by
      rcases Nat.eq_zero_or_pos n with h | h
      · exact h
      · have := Nat.mul_le_mul h hh.w1
        omega
    rw [h0, hn0]
    exact list_zero x width A cp w

set_option maxHeartbeats 800000 in
/-- two lists of words that are the same. -/
theorem same_yes (A1 A2 : Option Addr) (n c1 c2 : Nat) (V : Nat → Nat) (B : Nat) (w : World) (hn : n ≤ 8388608) (h1 : Wds w B A1 n V) (h2 : Wds w B A2 n V) :
    Calls Try.prog 18 #[.slice A1 n c1, .slice A2 n c2] w fun e w' => e = .returned (.bool true) ∧ Below w.heap.size w w' := by
  go_enter Try.func18, Try.ntmps18
  go_wp2_with fail
  go_loopw [13] (fun v wr => ∃ i : Nat, i ≤ n ∧ v = .int .i64 (i : Int) ∧ ∃ m, wr = w.drewN m) (fun v _ => n - (intOf v).toNat)
  case atStart => exact ⟨0, Nat.zero_le _, rfl, 0, rfl⟩
  case round =>
    obtain ⟨i, hi, rfl, m, rfl⟩ := hrel
    by_cases hlt : i < n
    · obtain ⟨a1, rfl, _, hV1, _⟩ := h1 i hlt
      obtain ⟨a2, rfl, _, hV2, _⟩ := h2 i hlt
      go_wp2_with fail
      go_quiet (fail)
      go_wp2_with fail
      go_roundw
      case rel => exact ⟨i + 1, by omega, by go_num, _, rfl⟩
      case measure => simp [intOf]; omega
    · go_wp2_with fail
      go_ret
      exact ⟨rfl, below_drewN' (Below.refl _ _) _⟩
end Go.Proofs.Ytlpoingajmogkaa
