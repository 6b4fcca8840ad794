/- The high bits of a sparse list as they lie in memory; contracts of the methods of highs. -/
import Derived.Test.YtmcoehimjfgakaaFind
import Derived.Test.YtmcoehimjfgakaaVecNew
import Derived.Deep.RegionHeld3
import Derived.Deep.DeepCutAuto
import Derived.Outline
namespace Go.Proofs.Ytmcoehimjfgakaa
open Go.RowKit

/-- two lists of bits that are one: the first has all its bits. -/
def Hs (w : World) (B h1 h2 c : Nat) (ws : List Nat) (f : Nat → Bool) : Prop :=
  (∃ gw av, Vc w B h1 gw av c ws f) ∧ ∃ gw av ws2 f2, Vc w B h2 gw av 0 ws2 f2
/-- their value. -/
def hv (h1 h2 : Nat) : Value := .agg #[.pointer (some ⟨h1, 0, none⟩), .pointer (some ⟨h2, 0, none⟩)]

section
variable {w w' : World} {B h1 h2 c : Nat} {ws : List Nat} {f : Nat → Bool}
theorem Hs.keep (h : Hs w B h1 h2 c ws f) (hb : Below w.heap.size w w') : Hs w' B h1 h2 c ws f := by
  obtain ⟨⟨gw, av, h1⟩, gw2, av2, ws2, f2, h2⟩ := h
  exact ⟨⟨gw, av, h1.keep hb⟩, gw2, av2, ws2, f2, h2.keep hb⟩
theorem Hs.old {q : Nat} (h : Hs w B h1 h2 c ws f) (hb : w.grownBy w' (some q)) (hq : q < B) : Hs w' B h1 h2 c ws f := by
  obtain ⟨⟨gw, av, h1⟩, gw2, av2, ws2, f2, h2⟩ := h
  exact ⟨⟨gw, av, h1.old hb hq⟩, gw2, av2, ws2, f2, h2.old hb hq⟩
theorem Hs.drewN (h : Hs w B h1 h2 c ws f) (k : Nat) : Hs (w.drewN k) B h1 h2 c ws f := by
  obtain ⟨⟨gw, av, h1⟩, gw2, av2, ws2, f2, h2⟩ := h
  exact ⟨⟨gw, av, h1.drewN k⟩, gw2, av2, ws2, f2, h2.drewN k⟩
theorem Hs.few (h : Hs w B h1 h2 c ws f) : c ≤ 4194304 := by
  obtain ⟨⟨gw, av, h1⟩, _⟩ := h
  exact h1.bits.few
theorem Hs.bits (h : Hs w B h1 h2 c ws f) : Bits ws c f := by
  obtain ⟨⟨gw, av, h1⟩, _⟩ := h
  exact h1.bits
theorem below_box (w : World) (o : Obj) : Below w.heap.size w (w.alloc o) := (Below.refl _ _).alloc (Nat.le_refl _) _

theorem Hs.len1 (h : Hs w B h1 h2 c ws f) : Calls Try.prog 56 #[.pointer (some ⟨h1, 0, none⟩)] w fun e w' => e = .returned (.int .i64 (c : Int)) ∧ w = w' := by
  obtain ⟨⟨gw, av, h1⟩, _⟩ := h
  exact vlen_any h1
theorem Hs.len2 (h : Hs w B h1 h2 c ws f) : Calls Try.prog 56 #[.pointer (some ⟨h2, 0, none⟩)] w fun e w' => e = .returned (.int .i64 0) ∧ w = w' := by
  obtain ⟨_, gw2, av2, ws2, f2, h2⟩ := h
  exact vlen_any h2
theorem Hs.ones1 (h : Hs w B h1 h2 c ws f) : Calls Try.prog 54 #[.pointer (some ⟨h1, 0, none⟩)] w fun e w' => e = .returned (.int .i64 ((Pl.cnt f c : Nat) : Int)) ∧ w = w' := by
  obtain ⟨⟨gw, av, h1⟩, _⟩ := h
  exact vones_any h1
theorem Hs.ones2 (h : Hs w B h1 h2 c ws f) : Calls Try.prog 54 #[.pointer (some ⟨h2, 0, none⟩)] w fun e w' => e = .returned (.int .i64 0) ∧ w = w' := by
  obtain ⟨_, gw2, av2, ws2, f2, h2⟩ := h
  exact vones_any h2
theorem Hs.at1 (h : Hs w B h1 h2 c ws f) (i : Nat) (hi : i < c) : Calls Try.prog 67 #[.pointer (some ⟨h1, 0, none⟩), .int .i64 (i : Int)] w fun e w' => e = .returned (.bool (f i)) ∧ w = w' := by
  obtain ⟨⟨gw, av, h1⟩, _⟩ := h
  exact at_in h1 i hi
theorem Hs.sel1 (h : Hs w B h1 h2 c ws f) (k : Int) : Calls Try.prog 55 #[.pointer (some ⟨h1, 0, none⟩), .int .i64 k] w fun e w' => e = .returned (.int .i64 (Pl.sel f c k)) ∧ Below w.heap.size w w' := by
  obtain ⟨⟨gw, av, h1⟩, _⟩ := h
  exact select_any h1 k
theorem Hs.zero1 (h : Hs w B h1 h2 c ws f) (k : Int) : Calls Try.prog 64 #[.pointer (some ⟨h1, 0, none⟩), .int .i64 k] w fun e w' => e = .returned (.int .i64 (Pl.sel (inv f) c k)) ∧ Below w.heap.size w w' := by
  obtain ⟨⟨gw, av, h1⟩, _⟩ := h
  exact selectZero_any h1 k

set_option maxHeartbeats 800000 in
theorem hlen_any (h : Hs w B h1 h2 c ws f) : Calls Try.prog 57 #[hv h1 h2] w fun e w' => e = .returned (.int .i64 (c : Int)) ∧ Below w.heap.size w w' := by
  have hf := h.few
  have H1 : ∀ o q, Hid (Calls Try.prog 56 #[.pointer (some ⟨h1, 0, none⟩)] ((w.alloc o).drewN q) fun e w' => e = .returned (.int .i64 (c : Int)) ∧ (w.alloc o).drewN q = w') := fun o q => Lib.hid (((h.keep (below_box w o)).drewN q).len1)
  have H2 : ∀ o q, Hid (Calls Try.prog 56 #[.pointer (some ⟨h2, 0, none⟩)] ((w.alloc o).drewN q) fun e w' => e = .returned (.int .i64 0) ∧ (w.alloc o).drewN q = w') := fun o q => Lib.hid (((h.keep (below_box w o)).drewN q).len2)
  clear h
  unfold hv
  go_enter Try.func57, Try.ntmps57
  go_wp2_with fail
  go_quiet ((go_at_call 56; first | with_reducible exact quiet_keep (H1 _ _).out | with_reducible exact quiet_keep (H2 _ _).out))
  go_wp2_with fail
  go_ret
  exact ⟨ret_i64 (by omega), below_drewN' (below_box w _) _⟩
set_option maxHeartbeats 800000 in
theorem hones_any (h : Hs w B h1 h2 c ws f) : Calls Try.prog 43 #[hv h1 h2] w fun e w' => e = .returned (.int .i64 ((Pl.cnt f c : Nat) : Int)) ∧ Below w.heap.size w w' := by
  have hf := h.few
  have hm := Pl.cnt_le f c
  have H1 : ∀ o q, Hid (Calls Try.prog 54 #[.pointer (some ⟨h1, 0, none⟩)] ((w.alloc o).drewN q) fun e w' => e = .returned (.int .i64 ((Pl.cnt f c : Nat) : Int)) ∧ (w.alloc o).drewN q = w') := fun o q => Lib.hid (((h.keep (below_box w o)).drewN q).ones1)
  have H2 : ∀ o q, Hid (Calls Try.prog 54 #[.pointer (some ⟨h2, 0, none⟩)] ((w.alloc o).drewN q) fun e w' => e = .returned (.int .i64 0) ∧ (w.alloc o).drewN q = w') := fun o q => Lib.hid (((h.keep (below_box w o)).drewN q).ones2)
  clear h
  generalize Pl.cnt f c = m at H1 hm ⊢
  unfold hv
  go_enter Try.func43, Try.ntmps43
  go_wp2_with fail
  go_quiet ((go_at_call 54; first | with_reducible exact quiet_keep (H1 _ _).out | with_reducible exact quiet_keep (H2 _ _).out))
  go_wp2_with fail
  go_ret
  exact ⟨ret_i64 (by omega), below_drewN' (below_box w _) _⟩

set_option maxHeartbeats 800000 in
theorem hat_any (h : Hs w B h1 h2 c ws f) (i : Nat) (hi : i < c) : Calls Try.prog 58 #[hv h1 h2, .int .i64 (i : Int)] w fun e w' => e = .returned (.bool (f i)) ∧ Below w.heap.size w w' := by
  have H1 : ∀ o, Hid (Calls Try.prog 56 #[.pointer (some ⟨h1, 0, none⟩)] (w.alloc o) fun e w' => e = .returned (.int .i64 (c : Int)) ∧ w.alloc o = w') := fun o => Lib.hid ((h.keep (below_box w o)).len1)
  have H2 : ∀ o, Hid (Calls Try.prog 67 #[.pointer (some ⟨h1, 0, none⟩), .int .i64 (i : Int)] (w.alloc o) fun e w' => e = .returned (.bool (f i)) ∧ w.alloc o = w') := fun o => Lib.hid ((h.keep (below_box w o)).at1 i hi)
  clear h
  unfold hv
  go_enter Try.func58, Try.ntmps58
  go_wp2_with fail
  refine (H1 _).out.mono ?_
  rintro e w' ⟨rfl, rfl⟩
  go_wp2_with fail
  refine (H2 _).out.mono ?_
  rintro e w' ⟨rfl, rfl⟩
  go_wp2_with fail
  go_ret
  exact ⟨rfl, below_box w _⟩

set_option maxHeartbeats 800000 in
theorem hone_any (h : Hs w B h1 h2 c ws f) (k : Nat) (hk : k < Pl.cnt f c) : Calls Try.prog 37 #[hv h1 h2, .int .i64 (k : Int)] w fun e w' => e = .returned (.int .i64 (Pl.sel f c (k : Int))) ∧ Below w.heap.size w w' := by
  have H1 : ∀ o, Hid (Calls Try.prog 54 #[.pointer (some ⟨h1, 0, none⟩)] (w.alloc o) fun e w' => e = .returned (.int .i64 ((Pl.cnt f c : Nat) : Int)) ∧ w.alloc o = w') := fun o => Lib.hid ((h.keep (below_box w o)).ones1)
  have H2 : ∀ o, Hid (Calls Try.prog 55 #[.pointer (some ⟨h1, 0, none⟩), .int .i64 (k : Int)] (w.alloc o) fun e w' => e = .returned (.int .i64 (Pl.sel f c (k : Int))) ∧ Below (w.alloc o).heap.size (w.alloc o) w') := fun o => Lib.hid ((h.keep (below_box w o)).sel1 k)
  clear h
  generalize Pl.cnt f c = m at H1 hk
  generalize Pl.sel f c (k : Int) = z at H2 ⊢
  unfold hv
  go_enter Try.func37, Try.ntmps37
  go_wp2_with fail
  refine (H1 _).out.mono ?_
  rintro e w' ⟨rfl, rfl⟩
  go_wp2_with fail
  refine (H2 _).out.mono ?_
  rintro e w1 ⟨rfl, hb⟩
  go_wp2_with fail
  go_ret
  exact ⟨rfl, (below_box w _).trans (hb.mono (by simp))⟩

set_option maxHeartbeats 800000 in
theorem hnought_any (h : Hs w B h1 h2 c ws f) (k : Int) (hk : k < ((Pl.cnt (inv f) c : Nat) : Int)) : Calls Try.prog 53 #[hv h1 h2, .int .i64 k] w fun e w' => e = .returned (.int .i64 (Pl.sel (inv f) c k)) ∧ Below w.heap.size w w' := by
  have hf := h.few
  have hn : Pl.cnt f c + Pl.cnt (inv f) c = c := Pl.cnt_not f c
  have H1 : ∀ o q, Hid (Calls Try.prog 56 #[.pointer (some ⟨h1, 0, none⟩)] ((w.alloc o).drewN q) fun e w' => e = .returned (.int .i64 (c : Int)) ∧ (w.alloc o).drewN q = w') := fun o q => Lib.hid (((h.keep (below_box w o)).drewN q).len1)
  have H2 : ∀ o q, Hid (Calls Try.prog 54 #[.pointer (some ⟨h1, 0, none⟩)] ((w.alloc o).drewN q) fun e w' => e = .returned (.int .i64 ((Pl.cnt f c : Nat) : Int)) ∧ (w.alloc o).drewN q = w') := fun o q => Lib.hid (((h.keep (below_box w o)).drewN q).ones1)
  have H3 : ∀ o q, Hid (Calls Try.prog 64 #[.pointer (some ⟨h1, 0, none⟩), .int .i64 k] ((w.alloc o).drewN q) fun e w' => e = .returned (.int .i64 (Pl.sel (inv f) c k)) ∧ Below ((w.alloc o).drewN q).heap.size ((w.alloc o).drewN q) w') := fun o q => Lib.hid (((h.keep (below_box w o)).drewN q).zero1 k)
  clear h
  generalize Pl.cnt f c = m at H2 hn
  generalize Pl.cnt (inv f) c = z0 at hk hn
  generalize Pl.sel (inv f) c k = z at H3 ⊢
  have e1 : (c : Int) - (m : Int) = (z0 : Int) := by omega
  clear hn
  unfold hv
  go_enter Try.func53, Try.ntmps53
  go_wp2_with fail
  go_quiet ((first | (go_at_call 56; with_reducible exact quiet_keep (H1 _ _).out) | (go_at_call 54; with_reducible exact quiet_keep (H2 _ _).out)))
  go_wp2_with fail
  refine (H3 _ _).out.mono ?_
  rintro e w1 ⟨rfl, hb⟩
  go_wp2_with fail
  go_ret
  exact ⟨rfl, (below_drewN' (below_box w _) _).trans (hb.mono (by simp))⟩
end
end Go.Proofs.Ytmcoehimjfgakaa
