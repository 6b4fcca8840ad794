/- The contract of the document's own answer for layer 1: the words of bits. -/
import Derived.Test.YtmcoehimjfgakaaBits
namespace Go.Proofs.Ytmcoehimjfgakaa
open Go.RowKit

theorem own_form {w : World} {B n : Nat} {v : Value} {ws : List Nat} (h : w.ownsRow B 43 1 v n (wcells ws)) (hn : 0 < n) : ∃ g c, v = .slice (some ⟨g, 0, none⟩) n c ∧ Row w B g n c ws := by
  rcases h.2 with ⟨_, h0⟩ | ⟨g, cap, cur, rfl, _⟩
  · omega
  · exact ⟨g, cap, rfl, ⟨h⟩⟩
theorem own_len {w : World} {B n : Nat} {v : Value} {ws : List Nat} (h : w.ownsRow B 43 1 v n (wcells ws)) : ws.length = n := by
  have := h.1
  rw [wcells_length] at this
  omega

theorem widen_row {w : World} {B i : Nat} {v : Value} {os : List Nat} (h : Hid (w.ownsRow B 43 1 v ((i + 63) / 64 + 1) (wcells os ++ [.int .u64 0]))) (hz : Hid (i % 64 = 0)) : ∃ g c, v = .slice (some ⟨g, 0, none⟩) (i / 64 + 1) c ∧ Hid (Row w B g (i / 64 + 1) c (widen os i)) := by
  have h0 := h.out
  have hz0 := hz.out
  have e1 : (i + 63) / 64 = i / 64 := by omega
  have e2 : wcells os ++ [.int .u64 0] = wcells (widen os i) := by
    unfold widen
    rw [if_pos hz0]
    unfold wcells
    rw [List.map_append]
    rfl
  rw [e1, e2] at h0
  obtain ⟨g, c, e, hr⟩ := own_form h0 (by omega)
  exact ⟨g, c, e, hr⟩
theorem keep_row {w : World} {B i : Nat} {v : Value} {os : List Nat} (h : w.ownsRow B 43 1 v ((i + 63) / 64) (wcells os)) (hz : ¬ i % 64 = 0) : ∃ g c, v = .slice (some ⟨g, 0, none⟩) (i / 64 + 1) c ∧ Hid (Row w B g (i / 64 + 1) c (widen os i)) := by
  have e1 : (i + 63) / 64 = i / 64 + 1 := by omega
  have e2 : os = widen os i := by
    unfold widen
    rw [if_neg hz]
  rw [e1, e2] at h
  obtain ⟨g, c, e, hr⟩ := own_form h (by omega)
  exact ⟨g, c, e, hr⟩
theorem row_cell {w : World} {B g c i y : Nat} {os : List Nat} (h : Hid (Row w B g (i / 64 + 1) c (widen os i))) (hl : Hid ((widen os i).length = i / 64 + 1)) (ha : Hid ((widen os i).getD (i / 64) 0 = y)) : w.cell? ⟨g, i / 64, none⟩ = some (.int .u64 (y : Int)) := by
  have e := h.out.at_ hl.out.symm (i / 64) (by omega)
  rw [ha.out] at e
  exact e

theorem row_next {w : World} {B g c i : Nat} {os : List Nat} (h : Hid (Row w B g (i / 64 + 1) c (widen os i))) (z : Nat) :
    (w.setCell ⟨g, i / 64, none⟩ (.int .u64 (z : Int))).ownsRow B 43 1 (.slice (some ⟨g, 0, none⟩) (i / 64 + 1) c) ((i + 1 + 63) / 64) (wcells ((widen os i).set (i / 64) z)) := by
  have e : (i + 1 + 63) / 64 = i / 64 + 1 := by omega
  rw [e]
  exact (h.out.put (i / 64) z).own

/-- what Words leaves: the words of bits. -/
def WordsPost (w : World) (f : Nat → Bool) (c : Nat) (e : Ending) (w' : World) : Prop :=
  ∃ v os, e = .returned v ∧ w'.ownsRow w.heap.size 43 1 v ((c + 63) / 64) (wcells os) ∧ Upto f c os ∧ Below w.heap.size w w'

set_option maxHeartbeats 1600000 in
theorem refWords_any (f : Nat → Bool) (c lo : Nat) (A : Option Addr) (cp : Nat) (w : World) (hc : c ≤ 200000) (hb : Bts w lo A c f) :
    Calls Try.prog 41 #[.slice A c cp] w (WordsPost w f c) := by
  go_enter Try.func41, Try.ntmps41
  go_wp2_with fail
  go_loopw [3, 8] (fun u v wr => ∃ (i : Nat) (os : List Nat), i ≤ c ∧ v = .int .i64 (i : Int) ∧ wr.ownsRow w.heap.size 43 1 u ((i + 63) / 64) (wcells os) ∧ Upto f i os ∧ Below w.heap.size w wr) (fun _ v _ => c - (intOf v).toNat)
  case atStart => exact ⟨0, [], Nat.zero_le _, rfl, World.ownsRow_nil _ _ _ _, upto_zero f, Below.refl _ _⟩
  case round =>
    obtain ⟨i, os, hi, rfl, hown, hup, hB⟩ := hrel
    by_cases hlt : i < c
    · obtain ⟨ad, rfl, _, had, hV0⟩ := hb i hlt
      have hV := (hB.cell (by rw [add_block]; exact had)).trans hV0
      obtain ⟨t, ht⟩ : ∃ t, (f i).toNat = t := ⟨_, rfl⟩
      rw [ht] at hV
      have ht1 : t ≤ 1 := by rw [← ht]; cases f i <;> decide
      obtain ⟨y, hy⟩ : ∃ y, os.getD (i / 64) 0 = y := ⟨_, rfl⟩
      have hlow := hup.low
      rw [hy] at hlow
      have hr : i % 64 < 64 := Nat.mod_lt _ (by decide)
      have hp : 2 ^ (i % 64) * 2 ≤ 2 ^ 64 := by rw [← Nat.pow_succ]; exact Nat.pow_le_pow_right (by omega) (by omega)
      obtain ⟨s, hs⟩ : ∃ s, t * 2 ^ (i % 64) = s := ⟨_, rfl⟩
      have hs1 : s < 2 ^ 64 ∧ y + s < 2 ^ 64 := by
        have h01 : t = 0 ∨ t = 1 := by omega
        rcases h01 with h | h <;> subst h <;> omega
      have hsh : IntKind.u64.wrap ((t : Int) * 2 ^ (i % 64)) = (s : Int) := by
        rw [shl_u, hs, Nat.mod_eq_of_lt hs1.1]
      have hys : (y : Int) + (s : Int) ≤ 18446744073709551615 := by omega
      have HSt := Lib.hid (show Upto f (i + 1) ((widen os i).set (i / 64) (y + s)) by
        have e := hup.step
        rw [ht, hy, hs] at e
        exact e)
      have hwl : (widen os i).length = i / 64 + 1 := hup.widen_len
      have hwa : (widen os i).getD (i / 64) 0 = y := by rw [widen_at]; exact hy
      have HWl := Lib.hid hwl
      have HWa := Lib.hid hwa
      have hi32 : i ≤ 200000 := by omega
      clear ht hy hlow hp hs hup hwl hwa hb hs1 hV0
      by_cases hz : i % 64 = 0
      · have t5 : ((i : Int) % 64 == 0) = true := by rw [beq_iff_eq]; omega
        have HOwn := Lib.hid hown
        have HZ := Lib.hid hz
        have hBs := hB.size
        have hjs : (i + 63) / 64 ≤ 4194304 := by omega
        clear hown hz
        go_wp2_with (at_builtin; refine step_append_word rfl (.tmp 16) (.tmp 17) rfl rfl HOwn.out 0 rfl hBs hjs ?_; intro v' w2 HO2 hb2 _; obtain ⟨g, c2, rfl, HR⟩ := widen_row HO2 HZ; have hcell := row_cell HR HWl HWa; have hfz := HR.out.free (i / 64))
        go_roundw
        case rel => exact ⟨i + 1, _, by omega, by go_num, row_next HR _, HSt.out, (hB.trans hb2).setCell HR.out.lt.1 _⟩
        case measure => simp [intOf]; omega
      · have t5 : ((i : Int) % 64 == 0) = false := by rw [beq_eq_false_iff_ne]; omega
        obtain ⟨g, c2, rfl, HR⟩ := keep_row hown hz
        have hcell := row_cell HR HWl HWa
        have hfz := HR.out.free (i / 64)
        clear hown hz
        go_wp2_with fail
        go_roundw
        case rel => exact ⟨i + 1, _, by omega, by go_num, row_next HR _, HSt.out, hB.setCell HR.out.lt.1 _⟩
        case measure => simp [intOf]; omega
    · have hin : i = c := by omega
      subst hin
      go_wp2_with fail
      go_ret
      exact ⟨_, os, rfl, hown, hup, hB⟩
end Go.Proofs.Ytmcoehimjfgakaa
