/- Contracts of the document's own answers for layer 1: the bits of numbers, and the words of bits; whether a number fits. -/
import Derived.Test.YtmcoehimjfgakaaRef
namespace Go.Proofs.Ytmcoehimjfgakaa
open Go.RowKit

theorem info_u8 : (Try.prog.info? 5).map (fun i => (i.zero, i.size, i.bytes)) = some (some (.int .u8 0), 1, 1) := by kernel_rfl

/-- append of one byte to a row of the call's own, as a step of the walk. -/
theorem step_append_byte {ops : Array Oper} {rest : List Oper} {o : Oper} {a : Act} {Q : Exit → Act → World → Prop} (hgd : o.guard = none) (s x : Operand)
    (ho : o.op = .call { callee := .builtin .append, args := #[s, x], argTypes := #[64, 64] })
    {w : World} {B : Nat} {v : Value} {i : Nat} {xs : List Value} (hs : a.eval s = v) (hown : w.ownsRow B 5 1 v i xs) (y : Int) (hx : a.eval x = .slice (some ⟨w.heap.size, 0, none⟩) 1 1) (hB : B ≤ w.heap.size) (hi : i ≤ 4194304)
    (h : ∀ v' w', Hid (w'.ownsRow B 5 1 v' (i + 1) (xs ++ [.int .u8 y])) → Below B w w' → Hid (w.grownBy w' v.ownBlock) → wpList Try.prog ops Q rest (a.put o.dst v') w') :
    wpList Try.prog ops Q (o :: rest) a (w.alloc (.cells #[.int .u8 y] 5)) := by
  obtain ⟨i0, hi0, hz0, hs0, hb0⟩ := info_parts info_u8
  have hl := lies_new w 5 [.int .u8 y]
  refine wpList_append_own _ hgd s x 64 ho B 5 i0 (.int .u8 0) 1 1 Try.underlying64 hi0 hz0 hs0 hb0 rfl (by decide) v i xs hs (hown.alloc _) ⟨w.heap.size, 0, none⟩ 1 1 [.int .u8 y] hx rfl (fun j u hj => by
      cases j with
      | zero => simp at hj; subst hj; exact hl.cell 0
      | succ j => simp at hj) (fun u hu => by simp at hu; subst hu; rfl) (by unfold maxLen; omega) (by omega) (by rw [size_alloc]; omega) (fun v' w' h2 h3 _ => ?_)
  exact h v' w' h2 (((Below.refl _ _).alloc hB _).grown h3 (by rw [size_alloc]; omega) (fun k hk => (hown.lt k hk).1)) (grownBy_trans (World.grownBy_alloc w _ _) h3)

/-- bits as cells of bytes. -/
def bcells (f : Nat → Bool) (c : Nat) : List Value := (List.range c).map fun (i : Nat) => Value.int .u8 (((f i).toNat : Nat) : Int)
theorem bcells_snoc (f : Nat → Bool) (c : Nat) : bcells f (c + 1) = bcells f c ++ [.int .u8 (((f c).toNat : Nat) : Int)] := by
  unfold bcells
  rw [List.range_succ]
  simp
theorem bcells_at (f : Nat → Bool) (c k : Nat) (h : k < c) : (bcells f c)[k]? = some (.int .u8 (((f k).toNat : Nat) : Int)) := by
  unfold bcells
  rw [List.getElem?_map, List.getElem?_range h]
  rfl

theorem low_bit (y k : Nat) : bits .and .u8 ((y : Int) / 2 ^ k % 256) 1 = (((y.testBit k).toNat : Nat) : Int) := by
  have h1 : (1 : Int) = ((1 : Nat) : Int) := rfl
  have e : (y : Int) / 2 ^ k % 256 = ((y / 2 ^ k % 256 : Nat) : Int) := by
    rw [shr_u]
    omega
  rw [e, h1, u8_and_nat _ _ (Nat.mod_lt _ (by decide)) (by decide), Nat.and_one_is_mod, Nat.toNat_testBit]
  congr 1
  omega

/-- what Bits leaves: the bits of numbers, in order. -/
def BitsPost (w : World) (f : Nat → Bool) (c : Nat) (e : Ending) (w' : World) : Prop :=
  ∃ v, e = .returned v ∧ w'.ownsRow w.heap.size 5 1 v c (bcells f c) ∧ Below w.heap.size w w'

set_option maxHeartbeats 1600000 in
theorem bits_many (x : Nat → Nat) (ws : List Nat) (width n : Nat) (A : Option Addr) (cp : Nat) (w : World) (hn : n ≤ 20000) (ho : Wds w w.heap.size A n x) (hh : Pl.Holds ws width n x) :
    Calls Try.prog 42 #[.int .i64 width, .slice A n cp] w (BitsPost w (Pl.bitAt ws) (n * width)) := by
  have h1 := hh.w1
  have h64 := hh.w64
  go_enter Try.func42, Try.ntmps42
  go_wp2_with fail
  go_loopw [5, 11] (fun u v wr => ∃ i : Nat, i ≤ n ∧ v = .int .i64 (i : Int) ∧ wr.ownsRow w.heap.size 5 1 u (i * width) (bcells (Pl.bitAt ws) (i * width)) ∧ Below w.heap.size w wr) (fun _ v _ => n - (intOf v).toNat)
  case atStart => exact ⟨0, Nat.zero_le _, rfl, by rw [Nat.zero_mul]; exact World.ownsRow_nil _ _ _ _, Below.refl _ _⟩
  case round =>
    obtain ⟨i, hi, rfl, hown, hB⟩ := hrel
    by_cases hlt : i < n
    · obtain ⟨ad, rfl, had, hV, hV64⟩ := ho.below hB i hlt
      obtain ⟨y, hy⟩ : ∃ y, x i = y := ⟨_, rfl⟩
      rw [hy] at hV hV64
      have hroom := Pl.mul_room (width := width) hlt
      have hcap : n * width ≤ 20000 * 64 := Nat.mul_le_mul hn h64
      obtain ⟨p, hp⟩ : ∃ p, i * width = p := ⟨_, rfl⟩
      rw [hp] at hown hroom
      have HBits : Hid (∀ k, k < width → Pl.bitAt ws (p + k) = y.testBit k) := by
        intro k hk
        rw [← hp, ← hy]
        exact hh.bits i k hlt hk
      have HP := Lib.hid hp
      clear hy hp ho
      go_wp2_with fail
      go_loopw [5, 8] (fun u v wq => ∃ k : Nat, k ≤ width ∧ v = .int .i64 (k : Int) ∧ wq.ownsRow w.heap.size 5 1 u (p + k) (bcells (Pl.bitAt ws) (p + k)) ∧ Below w.heap.size w wq) (fun _ v _ => width - (intOf v).toNat)
      case atStart => exact ⟨0, Nat.zero_le _, rfl, hown, hB⟩
      case round =>
        clear hown hB hV
        obtain ⟨k, hk, rfl, hown, hB⟩ := hrel
        by_cases hkw : k < width
        · have HB2 := Lib.hid (low_bit y k)
          have HOwn := Lib.hid hown
          have hBs := hB.size
          have hjs : p + k ≤ 4194304 := by omega
          clear hown
          go_wp2_with (at_builtin; refine step_append_byte rfl (.tmp 20) (.tmp 27) rfl rfl HOwn.out _ rfl hBs hjs ?_; intro v' w2 HO2 hb2 _)
          go_roundw
          case rel =>
            refine ⟨k + 1, by omega, by go_num, ?_, hB.trans hb2⟩
            have e := HO2.out
            rw [HB2.out, ← HBits.out k hkw, ← bcells_snoc] at e
            exact e
          case measure => simp [intOf]; omega
        · have hkk : k = width := by omega
          subst hkk
          have HOwn := Lib.hid hown
          clear hown
          go_wp2_with fail
          go_roundw
          case rel =>
            refine ⟨i + 1, by omega, by go_num, ?_, hB⟩
            rw [Nat.add_mul, Nat.one_mul, HP.out]
            exact HOwn.out
          case measure => simp [intOf]; omega
    · have hin : i = n := by omega
      subst hin
      go_wp2_with fail
      go_ret
      exact ⟨_, rfl, hown, hB⟩

theorem bits_any (x : Nat → Nat) (ws : List Nat) (width n : Nat) (A : Option Addr) (cp : Nat) (w : World) (hn : n ≤ 3000) (ho : Wds w w.heap.size A n x) (hh : Pl.Holds ws width n x) :
    Calls Try.prog 42 #[.int .i64 width, .slice A n cp] w (BitsPost w (Pl.bitAt ws) (n * width)) := bits_many x ws width n A cp w (by omega) ho hh

/-- bytes that are bits, as a slice, at blocks from lo on. -/
def Bts (w : World) (lo : Nat) (A : Option Addr) (c : Nat) (f : Nat → Bool) : Prop :=
  ∀ k, k < c → ∃ ad : Addr, A = some ad ∧ lo ≤ ad.block ∧ ad.block < w.heap.size ∧ w.cell? (ad.add k) = some (.int .u8 (((f k).toNat : Nat) : Int))
theorem Bts.of_own {w : World} {B c : Nat} {v : Value} {f : Nat → Bool} (h : w.ownsRow B 5 1 v c (bcells f c)) : ∃ A cp, v = .slice A c cp ∧ Bts w B A c f := by
  have hlt := h.lt
  rcases h.2 with ⟨rfl, rfl⟩ | ⟨g, cap, cur, rfl, hg, hh, _⟩
  · exact ⟨none, 0, rfl, fun k hk => absurd hk (by omega)⟩
  · refine ⟨some ⟨g, 0, none⟩, cap, rfl, fun k hk => ⟨⟨g, 0, none⟩, rfl, hg, (hlt g rfl).2, ?_⟩⟩
    have e : (⟨g, 0, none⟩ : Addr).add k = ⟨g, k, none⟩ := by unfold Addr.add; split <;> simp_all
    rw [e, h.cellAt k (by omega), bcells_at _ _ k hk]
theorem Bts.below {w w' : World} {lo : Nat} {A : Option Addr} {c : Nat} {f : Nat → Bool} (h : Bts w lo A c f) (hb : Below w.heap.size w w') : Bts w' lo A c f := fun k hk => by
  obtain ⟨ad, e, h1, h2, h3⟩ := h k hk
  exact ⟨ad, e, h1, Nat.lt_of_lt_of_le h2 hb.size, (hb.cell (by rw [add_block]; exact h2)).trans h3⟩

/-- two lists of words with the same bits are one. -/
theorem words_ext {a b : List Nat} (hl : a.length = b.length) (ha : Pl.Small a) (hb : Pl.Small b) (h : ∀ i, Pl.bitAt a i = Pl.bitAt b i) : a = b := by
  apply List.ext_getElem hl
  intro k h1 h2
  apply Nat.eq_of_testBit_eq
  intro j
  have ea : a.getD k 0 = a[k] := by rw [List.getD_eq_getElem?_getD, List.getElem?_eq_getElem h1]; rfl
  have eb : b.getD k 0 = b[k] := by rw [List.getD_eq_getElem?_getD, List.getElem?_eq_getElem h2]; rfl
  by_cases hj : j < 64
  · have hi := h (64 * k + j)
    unfold Pl.bitAt at hi
    have e1 : (64 * k + j) / 64 = k := by omega
    have e2 : (64 * k + j) % 64 = j := by omega
    rw [e1, e2, ea, eb] at hi
    exact hi
  · rw [← ea, ← eb, Pl.tb_big (ha.at_ k) (by omega), Pl.tb_big (hb.at_ k) (by omega)]

/-- the words of the first i bits. -/
structure Upto (f : Nat → Bool) (i : Nat) (os : List Nat) : Prop where
  len : os.length = (i + 63) / 64
  small : Pl.Small os
  bits : ∀ b, Pl.bitAt os b = (decide (b < i) && f b)
theorem upto_zero (f : Nat → Bool) : Upto f 0 [] := ⟨rfl, (fun x hx => by cases hx), (fun b => by simp [Pl.bitAt])⟩

/-- a nought word behind the others. -/
def widen (os : List Nat) (i : Nat) : List Nat := if i % 64 = 0 then os ++ [0] else os
theorem widen_at (os : List Nat) (i k : Nat) : (widen os i).getD k 0 = os.getD k 0 := by
  unfold widen
  split
  · simp only [List.getD_eq_getElem?_getD]
    by_cases hk : k < os.length
    · rw [List.getElem?_append_left hk]
    · rw [List.getElem?_append_right (by omega), List.getElem?_eq_none (show os.length ≤ k by omega)]
      cases h : k - os.length <;> simp
  · rfl
theorem Upto.widen_len {f : Nat → Bool} {i : Nat} {os : List Nat} (h : Upto f i os) : (widen os i).length = i / 64 + 1 := by
  have := h.len
  unfold widen
  split
  · rw [List.length_append, this]; simp; omega
  · rw [this]; omega
/-- the word that is being laid has nothing set from the place on. -/
theorem Upto.low {f : Nat → Bool} {i : Nat} {os : List Nat} (h : Upto f i os) : os.getD (i / 64) 0 < 2 ^ (i % 64) := by
  apply Nat.lt_pow_two_of_testBit
  intro j hj
  by_cases h64 : j < 64
  · have hb := h.bits (64 * (i / 64) + j)
    unfold Pl.bitAt at hb
    have e1 : (64 * (i / 64) + j) / 64 = i / 64 := by omega
    have e2 : (64 * (i / 64) + j) % 64 = j := by omega
    have e3 : ¬ 64 * (i / 64) + j < i := by omega
    rw [e1, e2] at hb
    rw [hb]
    simp [e3]
  · exact Pl.tb_big (h.small.at_ _) (by omega)
theorem Upto.step {f : Nat → Bool} {i : Nat} {os : List Nat} (h : Upto f i os) : Upto f (i + 1) ((widen os i).set (i / 64) (os.getD (i / 64) 0 + (f i).toNat * 2 ^ (i % 64))) := by
  have hlow := h.low
  have hr : i % 64 < 64 := Nat.mod_lt _ (by decide)
  have hp : 2 ^ (i % 64) * 2 ≤ 2 ^ 64 := by rw [← Nat.pow_succ]; exact Nat.pow_le_pow_right (by omega) (by omega)
  have hnew : os.getD (i / 64) 0 + (f i).toNat * 2 ^ (i % 64) < 2 ^ 64 := by
    have ht : (f i).toNat = 0 ∨ (f i).toNat = 1 := by cases f i <;> simp
    rcases ht with ht | ht <;> rw [ht] <;> omega
  have hws : Pl.Small (widen os i) := by
    unfold widen
    split
    · intro x hx
      rcases List.mem_append.1 hx with hx | hx
      · exact h.small x hx
      · simp at hx; subst hx; decide
    · exact h.small
  refine ⟨?_, hws.set_ _ hnew, fun b => ?_⟩
  · rw [List.length_set, h.widen_len]; omega
  · rw [Pl.bitAt_set _ _ _ _ (by rw [h.widen_len]; omega)]
    by_cases hq : b / 64 = i / 64
    · rw [if_pos hq]
      have e : os.getD (i / 64) 0 + (f i).toNat * 2 ^ (i % 64) = 2 ^ (i % 64) * (f i).toNat ||| os.getD (i / 64) 0 := by
        rw [← Nat.two_pow_add_eq_or_of_lt hlow, Nat.mul_comm, Nat.add_comm]
      rw [e, Nat.testBit_or, Nat.mul_comm, Pl.tb_mul]
      have hb := h.bits b
      unfold Pl.bitAt at hb
      rw [hq] at hb
      rw [hb]
      by_cases hbi : b = i
      · subst hbi
        cases f b <;> simp
      · by_cases hlt : b < i
        · have e1 : ¬ i % 64 ≤ b % 64 := by omega
          have e2 : b < i + 1 := by omega
          simp [hlt, e1, e2]
        · have e1 : i % 64 ≤ b % 64 := by omega
          have e2 : ¬ b < i + 1 := by omega
          have e3 : b % 64 - i % 64 ≠ 0 := by omega
          have e4 : (f i).toNat.testBit (b % 64 - i % 64) = false := by
            apply Nat.testBit_lt_two_pow
            refine Nat.lt_of_lt_of_le (show (f i).toNat < 2 ^ 1 by cases f i <;> decide) (Nat.pow_le_pow_right (by omega) (by omega))
          simp [hlt, e2, e4]
    · rw [if_neg hq]
      have hw : Pl.bitAt (widen os i) b = Pl.bitAt os b := by unfold Pl.bitAt; rw [widen_at]
      rw [hw, h.bits b]
      have e : decide (b < i + 1) = decide (b < i) := decide_eq_decide.2 (by omega)
      rw [e]
end Go.Proofs.Ytmcoehimjfgakaa
