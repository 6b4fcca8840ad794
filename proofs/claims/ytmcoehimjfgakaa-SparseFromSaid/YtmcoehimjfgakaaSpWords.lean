/- The contract of the document's own answer for layer 3: the words of the high and of the low bits. -/
import Derived.Test.YtmcoehimjfgakaaSpRef
namespace Go.Proofs.Ytmcoehimjfgakaa
open Go.RowKit

/-- a slice of places, as it lies. -/
def Nts (w : World) (B : Nat) (A : Option Addr) (n : Nat) (l : Nat → Nat) : Prop :=
  ∀ k, k < n → ∃ ad : Addr, A = some ad ∧ ad.block < B ∧ w.cell? (ad.add k) = some (.int .i64 ((l k : Nat) : Int))
theorem Nts.below {w w' : World} {B : Nat} {A : Option Addr} {n : Nat} {l : Nat → Nat} (h : Nts w B A n l) (hb : Below B w w') : Nts w' B A n l := fun k hk => by
  obtain ⟨ad, e, h1, h2⟩ := h k hk
  exact ⟨ad, e, h1, (hb.cell (by rw [add_block]; exact h1)).trans h2⟩
theorem Nts.mono_ {w : World} {B B' : Nat} {A : Option Addr} {n : Nat} {l : Nat → Nat} (h : Nts w B A n l) (hB : B ≤ B') : Nts w B' A n l := fun k hk => by
  obtain ⟨ad, e, h1, h2⟩ := h k hk
  exact ⟨ad, e, Nat.lt_of_lt_of_le h1 hB, h2⟩
theorem Its.nts {w : World} {B : Nat} {A : Option Addr} {n : Nat} {V : Nat → Int} {l : Nat → Nat} (h : Its w B A n V) (e : ∀ i, i < n → V i = ((l i : Nat) : Int)) : Nts w B A n l := fun k hk => by
  obtain ⟨ad, e1, h1, h2, _⟩ := h k hk
  exact ⟨ad, e1, h1, by rw [h2, e k hk]⟩
theorem Nts.its {w : World} {B : Nat} {A : Option Addr} {n : Nat} {l : Nat → Nat} (h : Nts w B A n l) (hl : ∀ i, i < n → l i ≤ 4194304) : Its w B A n (fun i => ((l i : Nat) : Int)) := fun k hk => by
  obtain ⟨ad, e1, h1, h2⟩ := h k hk
  have := hl k hk
  exact ⟨ad, e1, h1, h2, by show _ ≤ ((l k : Nat) : Int); omega, by show ((l k : Nat) : Int) ≤ _; omega⟩

theorem zeros_bytes (L : Nat) : madeCells (Value.int .u8 0).cells (L * 1) = (bcells (fun _ => false) L).toArray := by
  apply Array.ext'
  simp [madeCells, bcells, Value.cells, Array.toList_range]
  intro a _
  simp [Nat.mod_one]
theorem make_bytes (L : Nat) (hL : L ≤ 16777216) (W : World) :
    (Instr.makeSlice 64 (.int .i64 (L : Int)) (.int .i64 (L : Int))).run Try.prog W = .ok (.slice (some ⟨W.heap.size, 0, none⟩) L L) (W.alloc (.cells (bcells (fun _ => false) L).toArray 5)) := by
  obtain ⟨i, hi, hz, hs, hb⟩ := info_parts info_u8
  have h := run_make (P := Try.prog) W 64 5 i _ Try.underlying64 hi hz .i64 .i64 (L : Int) (L : Int) (by omega) (by omega) (by rw [hb]; omega) (by omega)
  rw [h, hs]
  simp only [Int.toNat_natCast]
  rw [zeros_bytes]
theorem bcells_length (f : Nat → Bool) (c : Nat) : (bcells f c).length = c := by unfold bcells; simp
theorem bcells_set (f : Nat → Bool) (c p : Nat) : (bcells f c).set p (.int .u8 1) = bcells (fun b => f b || (p == b)) c := by
  apply List.ext_getElem
  · simp [bcells_length]
  · intro i h1 h2
    simp only [List.getElem_set, bcells, List.getElem_map, List.getElem_range]
    by_cases e : p = i
    · rw [if_pos e]; simp [e]
    · have e2 : (p == i) = false := by simpa using e
      rw [if_neg e, e2, Bool.or_false]
theorem bcells_congr {f g : Nat → Bool} {c : Nat} (h : ∀ b, b < c → f b = g b) : bcells f c = bcells g c := by
  unfold bcells
  apply List.map_congr_left
  intro i hi
  rw [h i (List.mem_range.1 hi)]
theorem Bts.of_lies {w : World} {g lo c : Nat} {f : Nat → Bool} (h : Lies w g 5 (bcells f c)) (hlo : lo ≤ g) : Bts w lo (some ⟨g, 0, none⟩) c f := fun k hk => by
  refine ⟨_, rfl, hlo, h.lt, ?_⟩
  have e : (⟨g, 0, none⟩ : Addr).add k = ⟨g, k, none⟩ := by unfold Addr.add; split <;> simp_all
  rw [e, h.cell k]
  exact bcells_at f c k hk

theorem holds_first {x : Nat → Nat} {width n : Nat} (h1 : 1 ≤ width) (h64 : width ≤ 64) (hx : ∀ i, i < n → x i < 2 ^ width) : ∀ k, k ≤ n → ∃ ws, Pl.Holds ws width n (fun i => if i < k then x i else 0)
  | 0, _ => ⟨_, by
    have h := Pl.holds_new width n h1 h64
    exact ⟨h.w1, h.w64, h.len, h.small, fun i hi => by simp; exact Nat.two_pow_pos _, fun i j hi hj => by rw [h.bits i j hi hj]; simp, h.behind⟩⟩
  | k + 1, hk => by
    obtain ⟨ws, h⟩ := holds_first h1 h64 hx k (by omega)
    have hs := h.set_ (i := k) (v := x k) (by omega) (hx k (by omega))
    refine ⟨_, hs.w1, hs.w64, hs.len, hs.small, fun i hi => ?_, fun i j hi hj => ?_, hs.behind⟩
    · show (if i < k + 1 then x i else 0) < _
      split
      · exact hx i hi
      · exact Nat.two_pow_pos _
    · rw [hs.bits i j hi hj]
      congr 1
      show (if i = k then x k else if i < k then x i else 0) = if i < k + 1 then x i else 0
      by_cases e : i = k
      · subst e; simp
      · rw [if_neg e]
        by_cases e2 : i < k
        · rw [if_pos e2, if_pos (by omega)]
        · rw [if_neg e2, if_neg (by omega)]
theorem Holds.agree {ws : List Nat} {width n : Nat} {x y : Nat → Nat} (h : Pl.Holds ws width n x) (e : ∀ i, i < n → x i = y i) : Pl.Holds ws width n y :=
  ⟨h.w1, h.w64, h.len, h.small, fun i hi => by rw [← e i hi]; exact h.fits i hi, fun i j hi hj => by rw [← e i hi]; exact h.bits i j hi hj, h.behind⟩
/-- numbers that fit have words. -/
theorem holds_some {x : Nat → Nat} {width n : Nat} (h1 : 1 ≤ width) (h64 : width ≤ 64) (hx : ∀ i, i < n → x i < 2 ^ width) : ∃ ws, Pl.Holds ws width n x := by
  obtain ⟨ws, h⟩ := holds_first h1 h64 hx n (Nat.le_refl _)
  exact ⟨ws, Holds.agree h fun i hi => by rw [if_pos hi]⟩
theorem Holds.unique {a b : List Nat} {width n : Nat} {x : Nat → Nat} (ha : Pl.Holds a width n x) (hb : Pl.Holds b width n x) : a = b :=
  words_same (by rw [ha.len, hb.len]) ha.small hb.small fun i => by
    by_cases hi : i < n * width
    · have hw := ha.w1
      have h1 : i / width < n := by rw [Nat.div_lt_iff_lt_mul (by omega)]; exact hi
      have h2 : i % width < width := Nat.mod_lt _ (by omega)
      have e : i / width * width + i % width = i := by rw [Nat.mul_comm]; exact Nat.div_add_mod _ _
      have e1 := ha.bits (i / width) (i % width) h1 h2
      have e2 := hb.bits (i / width) (i % width) h1 h2
      rw [e] at e1 e2
      rw [e1, e2]
    · rw [ha.behind i (by omega), hb.behind i (by omega)]
theorem Upto.bits_ {f : Nat → Bool} {c : Nat} {os : List Nat} (h : Upto f c os) (hc : c ≤ 4194304) : Bits os c f :=
  ⟨hc, h.len, h.small, fun i hi => by rw [h.bits i]; simp [hi], fun i hi => by rw [h.bits i]; simp; omega⟩

/-- the words hs and ls are those of the m places l below n. -/
structure Fit (n m : Nat) (hs ls : List Nat) (l : Nat → Nat) : Prop where
  rise : Pl.Rise n m l
  high : Bits hs (Pl.bitsOf n m (2 ^ Pl.lw n m)) (Pl.hi l (2 ^ Pl.lw n m) m)
  low : Pl.Holds ls (max 1 (Pl.lw n m)) m (fun i => l i % 2 ^ Pl.lw n m)
theorem Fit.unique {n m : Nat} {hs ls hs' ls' : List Nat} {l : Nat → Nat} (h : Fit n m hs ls l) (h' : Fit n m hs' ls' l) : hs = hs' ∧ ls = ls' := ⟨h.high.unique h'.high, Holds.unique h.low h'.low⟩
theorem hi_congr {l l' : Nat → Nat} {P m b : Nat} (e : ∀ i, i < m → l i = l' i) : Pl.hi l P m b = Pl.hi l' P m b := by
  rw [Bool.eq_iff_iff, Pl.hi_iff, Pl.hi_iff]
  constructor
  · rintro ⟨i, h1, h2⟩; exact ⟨i, h1, by rw [← e i h1]; exact h2⟩
  · rintro ⟨i, h1, h2⟩; exact ⟨i, h1, by rw [e i h1]; exact h2⟩
theorem Fit.agree {n m : Nat} {hs ls : List Nat} {l l' : Nat → Nat} (h : Fit n m hs ls l) (e : ∀ i, i < m → l i = l' i) : Fit n m hs ls l' :=
  ⟨h.rise.same e, h.high.agree fun _ _ => hi_congr e, Holds.agree h.low fun i hi => by rw [e i hi]⟩

/-- a row of words of the call's own, told by its slice. -/
def Wrow (w : World) (B : Nat) (v : Value) (ws : List Nat) : Prop := w.ownsRow B 43 1 v ws.length (wcells ws)

theorem ownsRow_lower {w : World} {B B' n : Nat} {t : TypeId} {v : Value} {cs : List Value} (h : w.ownsRow B t 1 v n cs) (hB : B' ≤ B) : w.ownsRow B' t 1 v n cs := by
  refine ⟨h.1, ?_⟩
  rcases h.2 with h' | ⟨g, cap, cur, e, hb, rest⟩
  · exact .inl h'
  · exact .inr ⟨g, cap, cur, e, Nat.le_trans hB hb, rest⟩
/-- what Words leaves. -/
def SWords (w : World) (n m : Nat) (l : Nat → Nat) (e : Ending) (w' : World) : Prop :=
  ∃ (v1 v2 : Value) (hs ls : List Nat) (B2 : Nat), e = .returned (.tuple #[v1, v2]) ∧ Wrow w' w.heap.size v1 hs ∧ Wrow w' B2 v2 ls ∧ (∀ k, v1.ownBlock = some k → k < B2) ∧ w.heap.size ≤ B2 ∧ Fit n m hs ls l ∧ Below w.heap.size w w'

theorem ownsRow_keep {w w' : World} {B n : Nat} {t : TypeId} {v : Value} {cs : List Value} (h : w.ownsRow B t 1 v n cs) (hb : Below w.heap.size w w') : w'.ownsRow B t 1 v n cs := by
  refine h.kept (row := none) ⟨hb.os, hb.tape, hb.output, hb.size, fun i hi _ => hb.block i hi⟩ ?_
  by_cases e : v.ownBlock = none
  · exact .inl e
  · exact .inr e

theorem two_pow_int (i : Nat) : (2 : Int) * ((2 ^ i : Nat) : Int) = ((2 ^ (i + 1) : Nat) : Int) := by
  rw [Nat.pow_succ]; omega
theorem pow_le_22 {i : Nat} (h : i ≤ 22) : 2 ^ i ≤ 4194304 := by
  have : 2 ^ i ≤ 2 ^ 22 := Nat.pow_le_pow_right (by omega) h
  simpa using this

theorem Wds.of_own {w : World} {B n : Nat} {v : Value} {x : Nat → Nat} (h : w.ownsRow B 43 1 v n (wcells ((List.range n).map x))) (hx : ∀ i, i < n → x i < 2 ^ 64) : ∃ A c, v = .slice A n c ∧ (A = none → n = 0 ∧ c = 0) ∧ Wds w w.heap.size A n x := by
  have hlt := h.lt
  rcases h.2 with ⟨rfl, rfl⟩ | ⟨g, cap, cur, rfl, hg, hh, _⟩
  · exact ⟨none, 0, rfl, fun _ => ⟨rfl, rfl⟩, fun k hk => absurd hk (by omega)⟩
  · refine ⟨some ⟨g, 0, none⟩, cap, rfl, fun e => (by cases e), fun k hk => ⟨⟨g, 0, none⟩, rfl, (hlt g rfl).2, ?_, hx k hk⟩⟩
    have e : (⟨g, 0, none⟩ : Addr).add k = ⟨g, k, none⟩ := by unfold Addr.add; split <;> simp_all
    rw [e, h.cellAt k (by omega), wcells_at _ k (by simp; exact hk)]
    rw [List.getD_eq_getElem?_getD, List.getElem?_map, List.getElem?_range hk]
    rfl
theorem Holds.of_upto {ws os : List Nat} {width n : Nat} {x : Nat → Nat} (h : Pl.Holds ws width n x) (hu : Upto (Pl.bitAt ws) (n * width) os) (hc : n * width ≤ 4194304) : Pl.Holds os width n x := by
  have hb : Bits ws (n * width) (Pl.bitAt ws) := ⟨hc, h.len, h.small, fun _ _ => rfl, h.behind⟩
  rw [(hu.bits_ hc).unique hb]
  exact h

/-- step_append_word where the source's block is named otherwise. -/
theorem step_append_word_at {ops : Array Oper} {rest : List Oper} {o : Oper} {a : Act} {Q : Exit → Act → World → Prop} (hgd : o.guard = none) (s x : Operand)
    (ho : o.op = .call { callee := .builtin .append, args := #[s, x], argTypes := #[33, 33] })
    {w : World} {B : Nat} {v : Value} {i : Nat} {xs : List Value} (hs : a.eval s = v) (hown : w.ownsRow B 43 1 v i xs) (y : Int) (g0 : Nat) (hg0 : g0 = w.heap.size) (hx : a.eval x = .slice (some ⟨g0, 0, none⟩) 1 1) (hB : B ≤ w.heap.size) (hi : i ≤ 4194304)
    (h : ∀ v' w', Hid (w'.ownsRow B 43 1 v' (i + 1) (xs ++ [.int .u64 y])) → Below B w w' → Hid (w.grownBy w' v.ownBlock) → wpList Try.prog ops Q rest (a.put o.dst v') w') :
    wpList Try.prog ops Q (o :: rest) a (w.alloc (.cells #[.int .u64 y] 43)) := by
  subst hg0
  exact step_append_word hgd s x ho hs hown y hx hB hi h

set_option maxRecDepth 100000 in
set_option maxHeartbeats 3200000 in
theorem swords_any (n m : Nat) (A : Option Addr) (c : Nat) (l : Nat → Nat) (B : Nat) (w : World) (hn : n ≤ 50000) (hm : 1 ≤ m) (hm2 : m ≤ 20000) (hmw : m * max 1 (Pl.lw n m) ≤ 200000) (hB : B ≤ w.heap.size) (ho : Nts w B A m l) (hr : Pl.Rise n m l) :
    Calls Try.prog 18 #[.int .i64 (n : Int), .slice A m c] w (SWords w n m l) := by
  have hn1 : 1 ≤ n := by have := hr.few; omega
  obtain ⟨k, hk⟩ : ∃ k, Pl.lw n m = k := ⟨_, rfl⟩
  have hk22 : k ≤ 22 := by rw [← hk]; exact Pl.lw_le (by omega)
  rw [hk] at hmw
  have HW : ∀ W, Hid (Calls Try.prog 40 #[.int .i64 (n : Int), .int .i64 (m : Int)] W fun e w' => e = .returned (.int .i64 (k : Int)) ∧ W = w') := fun W => by rw [← hk]; exact Lib.hid (swidth_any n m (by omega) hm (by omega) W)
  obtain ⟨P, hP⟩ : ∃ P, 2 ^ k = P := ⟨_, rfl⟩
  have hP1 : 1 ≤ P := by rw [← hP]; exact Nat.two_pow_pos _
  have hP22 : P ≤ 4194304 := by rw [← hP]; exact pow_le_22 hk22
  obtain ⟨q, hq⟩ : ∃ q, (n - 1) / P = q := ⟨_, rfl⟩
  have hqn : q ≤ n - 1 := by rw [← hq]; exact Nat.div_le_self _ _
  have e1 : (n : Int) - 1 = ((n - 1 : Nat) : Int) := by omega
  have eq1 : ((n - 1 : Nat) : Int) / (P : Int) = (q : Int) := by rw [← hq]; exact (Int.natCast_ediv _ _).symm
  obtain ⟨C, hC⟩ : ∃ C, m + q + 1 = C := ⟨_, rfl⟩
  have hCb : Pl.bitsOf n m P = C := by rw [← hC, ← hq]; rfl
  have hC2 : C ≤ 70000 := by omega
  have eC : (m : Int) + (q : Int) + 1 = (C : Int) := by omega
  have hmk := fun W => make_bytes C (by omega) W
  have HMk := Lib.hid hmk
  have HP := Lib.hid hP
  have HK := Lib.hid hk
  have HC := Lib.hid hCb
  have HR := Lib.hid hr
  have HO := Lib.hid ho
  have hz0 : ((m : Int) == 0) = false := by rw [beq_eq_false_iff_ne]; omega
  clear hP hk hq hC hCb hmk ho hr
  go_enter Try.func18, Try.ntmps18
  go_wp2_with fail
  refine (HW _).out.mono ?_
  rintro e w' ⟨rfl, rfl⟩
  go_wp2_with fail
  go_loop [8, 9] (fun u v => ∃ i : Nat, i ≤ k ∧ v = .int .i64 (i : Int) ∧ u = .int .i64 ((2 ^ i : Nat) : Int)) (fun _ v => k - (intOf v).toNat)
  case atStart => exact ⟨0, Nat.zero_le _, rfl, rfl⟩
  case round =>
    obtain ⟨i, hi, rfl, rfl⟩ := hrel
    by_cases hlt : i < k
    · have h2 := pow_le_22 (i := i) (by omega)
      have HT := Lib.hid (two_pow_int i)
      generalize 2 ^ i = y at h2 HT ⊢
      go_wp2_with fail
      go_round
      case rel => exact ⟨i + 1, by omega, by go_num, by rw [← HT.out]⟩
      case measure => simp [intOf]; omega
    · obtain rfl : i = k := by omega
      rw [HP.out]
      have hmk := HMk.out w
      go_wp2_with fail
      clear hmk
      go_loopw [11, 38] (fun u v wr => ∃ (j : Nat) (lv : Value), j ≤ m ∧ v = .int .i64 (j : Int) ∧ lv = u ∧ Hid (Lies wr w.heap.size 5 (bcells (Pl.hi l P j) C)) ∧ Hid (wr.ownsRow (w.heap.size + 1) 43 1 lv j (wcells ((List.range j).map fun t => l t % P))) ∧ Below w.heap.size w wr ∧ w.heap.size + 1 ≤ wr.heap.size) (fun _ v _ => m - (intOf v).toNat)
      case atStart =>
        refine ⟨0, _, Nat.zero_le _, rfl, rfl, Lib.hid ?_, Lib.hid (World.ownsRow_nil _ _ _ _), (Below.refl _ _).alloc (Nat.le_refl _) _, by simp⟩
        rw [bcells_congr (g := fun _ => false) fun b _ => Pl.hi_zero l P b]
        exact lies_new w _ _
      case round =>
        obtain ⟨j, lv, hj, rfl, rfl, HL, HOw, hBw, hsz⟩ := hrel
        by_cases hlt2 : j < m
        · obtain ⟨ad, rfl, had, hV⟩ := (HO.out.below (hBw.mono hB)) j hlt2
          have hpos := HR.out.pos_lt (P := P) hlt2
          have hbel := HR.out.below j hlt2
          have HSn := Lib.hid (wcells_snoc (fun t => l t % P) j)
          rw [HC.out] at hpos
          obtain ⟨x, hx⟩ : ∃ x, l j = x := ⟨_, rfl⟩
          obtain ⟨qx, hqx⟩ : ∃ qx, x / P = qx := ⟨_, rfl⟩
          obtain ⟨rx, hrx⟩ : ∃ rx, x % P = rx := ⟨_, rfl⟩
          have hrP : rx < P := by rw [← hrx]; exact Nat.mod_lt _ (by omega)
          rw [hx] at hV hpos hbel
          rw [hqx] at hpos
          have HSu : Hid (bcells (Pl.hi l P (j + 1)) C = (bcells (Pl.hi l P j) C).set (qx + j) (.int .u8 1)) := Lib.hid (by
            rw [bcells_set]
            exact bcells_congr fun b _ => by rw [Pl.hi_succ, hx, hqx])
          have HSv : Hid (wcells ((List.range (j + 1)).map fun t => l t % P) = wcells ((List.range j).map fun t => l t % P) ++ [.int .u64 (rx : Int)]) := Lib.hid (by rw [HSn.out, hx, hrx])
          have eq2 : (x : Int) / (P : Int) = (qx : Int) := by rw [← hqx]; exact (Int.natCast_ediv _ _).symm
          have eq3 : (x : Int) % (P : Int) = (rx : Int) := by rw [← hrx]; exact (Int.natCast_emod _ _).symm
          have hfz := HL.out.free (qx + j)
          have hold : wr.cell? ⟨w.heap.size, qx + j, none⟩ = some (.int .u8 (((Pl.hi l P j (qx + j)).toNat : Nat) : Int)) := (HL.out.cell (qx + j)).trans (bcells_at _ _ _ hpos)
          generalize (Pl.hi l P j (qx + j)).toNat = z0 at hold
          have HOw2 : Hid ((wr.setCell ⟨w.heap.size, qx + j, none⟩ (.int .u8 1)).ownsRow (w.heap.size + 1) 43 1 lv j (wcells ((List.range j).map fun t => l t % P))) := Lib.hid (HOw.out.kept (grownBy_put (g := w.heap.size) (grownBy_of_below (Below.refl _ _) _) (qx + j) _) (by
            by_cases e : lv.ownBlock = none
            · exact .inl e
            · refine .inr fun e2 => ?_
              have := (HOw.out.lt _ e2).1
              omega))
          have HL2 : Hid (Lies (wr.setCell ⟨w.heap.size, qx + j, none⟩ (.int .u8 1)) w.heap.size 5 (bcells (Pl.hi l P (j + 1)) C)) := Lib.hid (by rw [HSu.out]; exact HL.out.put _ _)
          have hB2 : Below w.heap.size w (wr.setCell ⟨w.heap.size, qx + j, none⟩ (.int .u8 1)) := hBw.setCell (Nat.le_refl _) _
          have hsz2 : w.heap.size + 1 ≤ (wr.setCell ⟨w.heap.size, qx + j, none⟩ (.int .u8 1)).heap.size := by simp [World.setCell]; omega
          have HS3 : Hid (wr.heap.size = (wr.setCell ⟨w.heap.size, qx + j, none⟩ (.int .u8 1)).heap.size) := Lib.hid (by simp [World.setCell])
          have hj4 : j ≤ 4194304 := by omega
          have hx5 : x ≤ 50000 := by omega
          clear hx hqx hrx HOw HL hbel HSn
          go_wp2_with (at_builtin; refine step_append_word_at rfl (.tmp 50) (.tmp 55) rfl rfl HOw2.out _ wr.heap.size HS3.out rfl hsz2 hj4 ?_; intro v' w2 HO2 hb2 _)
          go_roundw
          case rel =>
            refine ⟨j + 1, _, by omega, by go_num, rfl, Lib.hid (HL2.out.below hb2 (by omega)), Lib.hid ?_, hB2.trans (hb2.mono (by omega)), Nat.le_trans hsz2 hb2.size⟩
            rw [HSv.out]
            exact HO2.out
          case measure => simp [intOf]; omega
        · have hjm : j = m := by omega
          rw [hjm] at HL HOw
          have HP1 := Lib.hid (refWords_any (Pl.hi l P m) C w.heap.size (some ⟨w.heap.size, 0, none⟩) C wr (by omega) (Bts.of_lies HL.out (Nat.le_refl _)))
          clear HL
          obtain ⟨W, hW⟩ : ∃ W, max 1 i = W := ⟨_, rfl⟩
          have hW1 : 1 ≤ W := by omega
          have hW64 : W ≤ 64 := by omega
          have eM := Lib.hid (show max (i : Int) 1 = (W : Int) by omega)
          rw [hW] at hmw
          have hPW : P ≤ 2 ^ W := by rw [← HP.out]; exact Nat.pow_le_pow_right (by decide) (by omega)
          obtain ⟨ls0, hls⟩ := holds_some (x := fun t => l t % P) (width := W) (n := m) hW1 hW64 (fun t _ => Nat.lt_of_lt_of_le (Nat.mod_lt _ (by omega)) hPW)
          have HWW := Lib.hid hW
          have HLs := Lib.hid hls
          have HMW := Lib.hid hmw
          clear hls hW hPW hmw
          go_wp2_with fail
          refine HP1.out.mono ?_
          rintro e w2 ⟨v1, os, rfl, hown1, hup1, hb1⟩
          have HX1 := Lib.hid hown1
          have HU1 := Lib.hid hup1
          obtain ⟨A2, c2, rfl, hA2, hw2⟩ := Wds.of_own (ownsRow_keep HOw.out hb1) (fun t _ => by have : l t % P < P := Nat.mod_lt _ (by omega); omega)
          have HB2 := Lib.hid (bits_many (fun t => l t % P) ls0 W m A2 c2 w2 hm2 hw2 HLs.out)
          clear hown1 hup1 hw2
          go_wp2_with fail
          rw [eM.out]
          with_reducible refine HB2.out.mono ?_
          rintro e w3 ⟨v3, rfl, hown3, hb3⟩
          obtain ⟨A3, c3, rfl, hbt3⟩ := Bts.of_own hown3
          have HP3 := Lib.hid (refWords_any (Pl.bitAt ls0) (m * W) w2.heap.size A3 c3 w3 HMW.out hbt3)
          clear hown3 hbt3
          go_wp2_with fail
          with_reducible refine HP3.out.mono ?_
          rintro e w4 ⟨v4, os4, rfl, hown4, hup4, hb4⟩
          go_wp2_with fail
          go_ret2
          have hbb1 := hBw.trans (hb1.mono hBw.size)
          have hbb3 := hbb1.trans (hb3.mono hbb1.size)
          have hbb4 := hbb3.trans (hb4.mono hbb3.size)
          have eL1 := HU1.out.len
          have eL4 := hup4.len
          have hx1 := ownsRow_keep (ownsRow_keep HX1.out hb3) hb4
          refine ⟨v1, v4, os, os4, w3.heap.size, rfl, ?_, ?_, fun k hk => Nat.lt_of_lt_of_le (HX1.out.lt k hk).2 hb3.size, hbb3.size, ?_, hbb4⟩
          · show w4.ownsRow w.heap.size 43 1 v1 os.length (wcells os)
            rw [eL1]
            exact ownsRow_lower hx1 hBw.size
          · show w4.ownsRow w3.heap.size 43 1 v4 os4.length (wcells os4)
            rw [eL4]
            exact hown4
          · refine ⟨HR.out, ?_, ?_⟩
            · rw [HK.out, HP.out, HC.out]
              exact HU1.out.bits_ (by omega)
            · rw [HK.out, HP.out, HWW.out]
              exact Holds.of_upto HLs.out hup4 (by have := HMW.out; omega)

theorem swords_zero (n : Int) (A : Option Addr) (c : Nat) (w : World) :
    Calls Try.prog 18 #[.int .i64 n, .slice A 0 c] w fun e w' => e = .returned (.tuple #[.slice none 0 0, .slice none 0 0]) ∧ w = w' := by
  go_enter Try.func18, Try.ntmps18
  go_wp2_with fail
  go_ret2
  exact ⟨rfl, rfl⟩
end Go.Proofs.Ytmcoehimjfgakaa
