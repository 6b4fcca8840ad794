/- The contracts of the document's own answers for layer 4: a sum bit by bit, and the sum behind bytes. -/
import Derived.Test.YtbepoohphmicdaaDoorCrc
namespace Go.Proofs.YtbepoohphmicdaaDoor
open Go.RowKit

theorem odd_test (r : Nat) : ((r : Int) % 2 == 1) = r.testBit 0 := by
  rw [Nat.testBit_zero, Bool.eq_iff_iff]
  simp
  omega
theorem bit_test8 (v k : Nat) (hv : v < 256) (hk : k < 8) : (bits .and .u8 ((v : Int) / 2 ^ k) 1 == 1) = v.testBit k := by
  have all : ∀ j, j < 8 → ∀ y, y < 256 → (bits .and .u8 ((y / 2 ^ j : Nat) : Int) 1 == 1) = y.testBit j := by decide +kernel
  rw [shr_u]
  exact all k hk v hv

set_option maxRecDepth 100000 in
set_option maxHeartbeats 1600000 in
theorem refSum_any (A : Option Addr) (n c : Nat) (V : Nat → Nat) (B : Nat) (w : World) (hn : n ≤ 1048576) (ho : Bys w B A n V) :
    Calls Tryd.prog 34 #[.slice A n c] w fun e w' => e = .returned (.int .u32 ((Pl.sumN V n : Nat) : Int)) ∧ w = w' := by
  have HO := Lib.hid ho
  clear ho
  obtain ⟨m, hm⟩ : ∃ m, 8 * n = m := ⟨_, rfl⟩
  have hmi : IntKind.i64.wrap (8 * (n : Int)) = (m : Int) := by rw [IntWalk.i64_in _ (by omega)]; omega
  have HM := Lib.hid hm
  clear hm
  go_enter Tryd.func34, Tryd.ntmps34
  go_wp2_with fail
  go_loop [3, 4] (fun s v => ∃ i : Nat, i ≤ m ∧ v = .int .i64 (i : Int) ∧ s = .int .u32 ((Pl.run (Pl.bitB V) Pl.allOnes i : Nat) : Int)) (fun _ v => m - (intOf v).toNat)
  case atStart => exact ⟨0, Nat.zero_le _, rfl, rfl⟩
  case round =>
    obtain ⟨i, hi, rfl, rfl⟩ := hrel
    have hr := Pl.run_lt (f := Pl.bitB V) (r := Pl.allOnes) (by decide) i
    by_cases hlt : i < m
    · have hi8 : i / 8 < n := by have := HM.out; omega
      obtain ⟨ad, rfl, had, hV, hV8⟩ := HO.out (i / 8) hi8
      have hq : (i : Int) / 8 = ((i / 8 : Nat) : Int) := by omega
      have hnext : Pl.run (Pl.bitB V) Pl.allOnes (i + 1) = Pl.step (Pl.run (Pl.bitB V) Pl.allOnes i) (Pl.bitB V i) := rfl
      have ho := odd_test (Pl.run (Pl.bitB V) Pl.allOnes i)
      have hbt : (bits .and .u8 (((V (i / 8) : Nat) : Int) / 2 ^ (i % 8)) 1 == 1) = Pl.bitB V i := bit_test8 _ _ hV8 (Nat.mod_lt _ (by decide))
      have hlti : (i : Int) < (m : Int) := by omega
      have hin : ((i / 8 : Nat) : Int) < (n : Int) := by omega
      unfold Pl.step at hnext
      generalize Pl.run (Pl.bitB V) Pl.allOnes i = r at hr hnext ho ⊢
      have hx : bits .xor .u32 ((r : Int) / 2) 3988292384 = ((r / 2 ^^^ Pl.poly : Nat) : Int) := by
        rw [show (r : Int) / 2 = ((r / 2 : Nat) : Int) by omega]
        exact u32_xor_nat (r / 2) 3988292384 (by omega) (by omega)
      have h2 : (r : Int) / 2 = ((r / 2 : Nat) : Int) := by omega
      generalize Pl.bitB V i = b at hnext hbt
      generalize r.testBit 0 = o at hnext ho
      generalize V (i / 8) = y at hV hV8 hbt
      have HX := Lib.hid hx
      have H2 := Lib.hid h2
      have HNX := Lib.hid hnext
      clear hx h2 hnext
      generalize i / 8 = q at hi8 hV hq hin
      cases o <;> cases b
      all_goals
        simp only [Bool.xor_false, Bool.xor_true, Bool.not_true, Bool.not_false, Bool.false_eq_true, if_true, if_false, Nat.xor_zero] at HNX
        go_wp2_with fail
        go_round
        case rel => exact ⟨i + 1, by omega, by go_num, by rw [HNX.out]; first | rw [HX.out] | rw [H2.out]⟩
        case measure => simp [intOf]; omega
    · have him : i = m := by omega
      subst him
      have hs := Pl.sumN_sub V n
      unfold Pl.reg at hs
      rw [HM.out] at hs
      have HS := Lib.hid hs
      clear hs
      generalize Pl.run (Pl.bitB V) Pl.allOnes i = r at hr HS ⊢
      have hw : IntKind.u32.wrap (4294967295 - (r : Int)) = ((Pl.allOnes - r : Nat) : Int) := by
        rw [IntKind.wrap_u32]
        unfold Pl.allOnes
        omega
      have hnlt : decide ((i : Int) < (i : Int)) = false := by simp
      go_wp2_with fail
      go_ret
      exact ⟨by rw [← HS.out]; rfl, rfl⟩

set_option maxRecDepth 100000 in
set_option maxHeartbeats 1600000 in
theorem refPut_any (A : Option Addr) (n c : Nat) (V : Nat → Nat) (w : World) (hn : n ≤ 1048576) (hA : A = none → n = 0 ∧ c = 0) (ho : Bys w w.heap.size A n V) :
    Calls Tryd.prog 20 #[.slice A n c] w (PutPost w n V) := by
  have HO := Lib.hid ho
  have HW := Lib.hid (World.ownsRow_made (base := w.heap.size) (e := 5) (size := 1) w #[] 0 (Nat.le_refl _) (by unfold maxLen; omega) rfl)
  have hb0 : Below w.heap.size w (w.alloc (.cells #[] 5)) := (Below.refl _ _).alloc (Nat.le_refl _) _
  have HS : ∀ W, Below w.heap.size w W → Hid (Calls Tryd.prog 34 #[.slice A n c] W fun e w' => e = .returned (.int .u32 ((Pl.sumN V n : Nat) : Int)) ∧ W = w') := fun W hW => Lib.hid (refSum_any A n c V w.heap.size W hn (HO.out.below hW))
  have hslt := Pl.sumN_lt V n
  have HB := Lib.hid (show behind V n = both V (byteOf (Pl.sumN V n)) n from rfl)
  clear ho
  go_enter Tryd.func20, Tryd.ntmps20
  go_wp2_with (at_builtin; refine step_append_bytes rfl (.tmp 6) (.tmp 7) rfl rfl HW.out rfl hA (HO.out.below hb0) hb0.size (by omega) ?_; intro v1 w1 hown1 hb1)
  have hbA := hb0.trans hb1
  have HS1 := HS w1 hbA
  refine HS1.out.mono ?_
  rintro e w' ⟨rfl, rfl⟩
  generalize Pl.sumN V n = S at hslt HB ⊢
  go_wp2_with fail
  go_loopw [3, 4, 5] (fun o s v wr => ∃ i : Nat, i ≤ 4 ∧ v = .int .i64 (i : Int) ∧ s = .int .u32 ((S / 256 ^ i : Nat) : Int) ∧ Hid (wr.ownsRow w.heap.size 5 1 o (n + i) (ycells (both V (byteOf S) n) (n + i))) ∧ Below w.heap.size w wr) (fun _ _ v _ => 4 - (intOf v).toNat)
  case atStart =>
    refine ⟨0, by decide, rfl, by simp, Lib.hid ?_, hbA⟩
    have h := hown1.out
    rw [List.nil_append, Nat.zero_add] at h
    have e := ycells_both V (byteOf S) n 0
    rw [show ycells (byteOf S) 0 = [] from rfl, List.append_nil] at e
    rw [← e]
    exact h
  case round =>
    obtain ⟨i, hi, rfl, rfl, hown, hb⟩ := hrel
    by_cases hlt : i < 4
    · have hi4 : (i : Int) < 4 := by omega
      have hbs := hb.size
      have HQ := Lib.hid (show S / 256 ^ (i + 1) = S / 256 ^ i / 256 by rw [Nat.pow_succ, Nat.div_div_eq_div_mul])
      have HY := Lib.hid (show both V (byteOf S) n (n + i) = S / 256 ^ i % 256 by unfold both; rw [if_neg (by omega), show n + i - n = i by omega]; rfl)
      have hql : S / 256 ^ i < 2 ^ 32 := Nat.lt_of_le_of_lt (Nat.div_le_self _ _) hslt
      generalize S / 256 ^ i = q at hql HQ HY ⊢
      go_wp2_with (at_builtin; refine step_append_byte rfl (.tmp 15) (.tmp 19) rfl rfl hown.out _ rfl hbs (by omega) ?_; intro v5 w5 hown5 hb5)
      go_roundw
      case rel =>
        refine ⟨i + 1, by omega, by go_num, by rw [HQ.out]; rfl, Lib.hid ?_, hb.trans hb5⟩
        have h := hown5.out
        rw [← Nat.add_assoc, ycells_snoc, HY.out]
        exact h
      case measure => simp [intOf]; omega
    · have hin : i = 4 := by omega
      subst hin
      go_wp2_with fail
      go_ret
      exact ⟨_, rfl, by rw [HB.out]; exact hown.out, hb⟩
end Go.Proofs.YtbepoohphmicdaaDoor
