/- The developers' hand: passed, next, room. -/
import Derived.Test.YtjmajminfmcjcaaDoorCacTasks
namespace Go.Proofs.YtjmajminfmcjcaaDoor
open Go.RowKit

theorem set_self {α : Type} {D : List α} {i : Nat} {d : α} (h : D[i]? = some d) : D.set i d = D := by
  apply List.ext_getElem?
  intro k
  rw [List.getElem?_set]
  by_cases e : i = k
  · subst e
    rw [if_pos rfl, if_pos (List.getElem?_eq_some_iff.1 h).1, h]
  · rw [if_neg e]
/-- what the hand leaves of a frame that it looks at. -/
def lookF (f : Fr) : Fr := if f.held = 0 then { f with mark := false } else f

section
variable {rd : Nat → Prop} {w w' : World} {g gs : Nat} {img : Value} {D : List DF} {c : CS} {L : List Sec}
set_option maxRecDepth 100000 in
theorem passed_any (h : CC rd w g gs img D c L) {i : Nat} {d : DF} (hd : D[i]? = some d) :
    Calls Tryd.prog 44 #[.pointer (some ⟨gs, i * 4, none⟩)] w fun e w' => e = .returned (.bool (!(d.f.held == 0 && !d.f.mark))) ∧ CC rd w' g gs img (D.set i ⟨lookF d.f, d.z⟩) { c with F := c.F.set i (lookF d.f) } L ∧ Own2 g gs w w' := by
  have hh : w.cell? ⟨gs, i * 4 + 2, none⟩ = some (.int .i64 (d.f.held : Int)) := h.field (j := 2) hd (by decide)
  have hm : w.cell? ⟨gs, i * 4 + 3, none⟩ = some (.bool d.f.mark) := h.field (j := 3) hd (by decide)
  have hf := h.free (i * 4 + 3)
  by_cases h0 : d.f.held = 0
  · have hb : (!(d.f.held == 0 && !d.f.mark)) = d.f.mark := by simp [h0]
    have hl : lookF d.f = { d.f with mark := false } := by unfold lookF; rw [if_pos h0]
    have hP := h.put (i := i) (j := 3) (f' := { d.f with mark := false }) hd (by decide) rfl (by
      intro j' hj' hne
      match j', hj', hne with
      | 0, _, _ => rfl
      | 1, _, _ => rfl
      | 2, _, _ => rfl
      | 3, _, hne => exact absurd rfl hne)
    have hz : decide (0 < (d.f.held : Int)) = false := by simp [h0]
    have hz2 : decide (0 < d.f.held) = false := by simp [h0]
    have hz3 : ¬ 0 < d.f.held := by omega
    rw [hb, hl]
    have HP := Lib.hid hP
    generalize d.f.mark = m at hm ⊢
    clear h hd hP hb hl h0
    go_enter Tryd.func44, Tryd.ntmps44
    go_wp2_with fail
    go_ret
    exact ⟨rfl, HP.out, own2_put (a := ⟨gs, i * 4 + 3, none⟩) (.inr rfl) _⟩
  · have hb : (!(d.f.held == 0 && !d.f.mark)) = true := by simp [h0]
    have hl : lookF d.f = d.f := by unfold lookF; rw [if_neg h0]
    have hz : decide (0 < (d.f.held : Int)) = true := by simp; omega
    rw [hb, hl, set_self (h.at_ hd), show (⟨d.f, d.z⟩ : DF) = d from rfl, set_self hd]
    have HP := Lib.hid h
    clear h hd hb hl
    go_enter Tryd.func44, Tryd.ntmps44
    go_wp2_with fail
    go_ret
    exact ⟨rfl, HP.out, Own2.refl_ _ _ _⟩
set_option maxRecDepth 100000 in
theorem room1_any (h : CC rd w g gs img D c L) {i : Nat} {d : DF} (hd : D[i]? = some d) :
    Calls Tryd.prog 43 #[.pointer (some ⟨gs, i * 4, none⟩)] w fun e w' => e = .returned (.bool (d.f.held == 0 && !d.f.mark)) ∧ CC rd w' g gs img (D.set i ⟨lookF d.f, d.z⟩) { c with F := c.F.set i (lookF d.f) } L ∧ Own2 g gs w w' := by
  have HP := Lib.hid (passed_any h hd)
  generalize (d.f.held == 0 && !d.f.mark) = m at HP ⊢
  clear h hd
  go_enter Tryd.func43, Tryd.ntmps43
  go_wp2_with fail
  refine HP.out.mono ?_
  rintro e w' ⟨rfl, h1, h2⟩
  have H1 := Lib.hid h1
  have H2 := Lib.hid h2
  clear h1 h2
  go_wp2_with fail
  go_ret
  exact ⟨rfl, H1.out, H2.out⟩

/-- what next leaves. -/
def NextPost (rd : Nat → Prop) (w : World) (g gs : Nat) (img : Value) (c : CS) (L : List Sec) (e : Ending) (w' : World) : Prop :=
  (∀ i F' h', sweep (2 * c.F.length) c.F c.hand = some (i, F', h') → e = .returned (.pointer (some ⟨gs, i * 4, none⟩)) ∧ ∃ D', CC rd w' g gs img D' { c with F := F', hand := h' } L) ∧
  (sweep (2 * c.F.length) c.F c.hand = none → e = .returned (.pointer none) ∧ ∃ D', CC rd w' g gs img D' c L) ∧ Own2 g gs w w'
theorem look_clear {F : List Fr} {h : Nat} {f : Fr} (hf : F[h]? = some f) : clearF F h = F.set h (lookF f) := by
  unfold clearF lookF
  rw [hf]
  dsimp only
  split
  · rfl
  · rw [set_self hf]
theorem look_free {F : List Fr} {h : Nat} {f : Fr} (hf : F[h]? = some f) : freeF F h = (f.held == 0 && !f.mark) := by
  unfold freeF
  rw [hf]
set_option maxRecDepth 100000 in
set_option maxHeartbeats 1600000 in
theorem next_any (h : CC rd w g gs img D c L) :
    Calls Tryd.prog 42 #[.pointer (some ⟨g, 0, none⟩), .func (.func 43) #[] #[]] w (NextPost rd w g gs img c L) := by
  have h1 := h.head.cell 1
  have hfew := h.few
  have hhand := h.hand
  obtain ⟨k, hk⟩ : ∃ k, c.F.length = k := ⟨_, rfl⟩
  rw [hk] at h1 hfew hhand
  have HK := Lib.hid hk
  have HR := Lib.hid h
  have hw2 : IntKind.i64.wrap (2 * (k : Int)) = ((2 * k : Nat) : Int) := by rw [IntWalk.i64_in _ (by omega)]; omega
  have hkz : (k : Int) ≠ 0 := by omega
  unfold NextPost
  rw [hk]
  obtain ⟨K2, hK2⟩ : ∃ K2, 2 * k = K2 := ⟨_, rfl⟩
  rw [hK2] at hw2 ⊢
  clear hk h
  go_enter Tryd.func42, Tryd.ntmps42
  go_wp2_with fail
  go_loopw [12] (fun v wr => ∃ (j hj : Nat) (Dj : List DF) (Fj : List Fr), j ≤ K2 ∧ v = .int .i64 (j : Int) ∧ hj < k ∧ Hid (Fj.length = k) ∧ Hid (CC rd wr g gs img Dj { c with F := Fj, hand := hj } L) ∧ Hid (sweep K2 c.F c.hand = sweep (K2 - j) Fj hj) ∧ Hid (hj = (c.hand + j) % k) ∧ Hid ((∀ f ∈ c.F, f.held ≠ 0) → Fj = c.F) ∧ Own2 g gs w wr) (fun v _ => K2 - (intOf v).toNat)
  case atStart => exact ⟨0, c.hand, D, c.F, Nat.zero_le _, rfl, hhand, HK, HR, Lib.hid rfl, Lib.hid (by rw [Nat.add_zero, Nat.mod_eq_of_lt hhand]), Lib.hid (fun _ => rfl), Own2.refl_ _ _ _⟩
  case round =>
    obtain ⟨j, hj, Dj, Fj, hjK, rfl, hjk, HFl, HCj, HSj, HHj, HAj, hO⟩ := hrel
    by_cases hlt : j < K2
    · have hlti : (j : Int) < (K2 : Int) := by omega
      have q1 : ∀ n, (wr.drewN n).cell? ⟨g, 1, none⟩ = some (.slice (some ⟨gs, 0, none⟩) k k) := fun n => by
        have := HCj.out.head.cell 1
        rw [show ({ c with F := Fj, hand := hj } : CS).F.length = k from HFl.out] at this
        exact this
      have q2 : ∀ n, (wr.drewN n).cell? ⟨g, 2, none⟩ = some (.int .i64 (hj : Int)) := fun n => HCj.out.head.cell 2
      have hjki : (hj : Int) < (k : Int) := by omega
      clear h1 hw2
      go_wp2_with fail
      go_quiet (fail)
      go_wp2_with fail
      obtain ⟨W0, hW0⟩ : ∃ W, wr.drewN nq = W := ⟨_, rfl⟩
      have q1 : W0.cell? ⟨g, 1, none⟩ = some (.slice (some ⟨gs, 0, none⟩) k k) := by rw [← hW0]; exact q1 nq
      have q2 : W0.cell? ⟨g, 2, none⟩ = some (.int .i64 (hj : Int)) := by rw [← hW0]; exact q2 nq
      rw [hW0]
      have ew : IntKind.i64.wrap ((hj : Int) + 1) = (hj : Int) + 1 := IntWalk.i64_in _ (by omega)
      have hk0 : ¬ k = 0 := by omega
      obtain ⟨h2, hh2⟩ : ∃ h2, (hj + 1) % k = h2 := ⟨_, rfl⟩
      have hh2k : h2 < k := by rw [← hh2]; exact Nat.mod_lt _ (by omega)
      have htm : ((hj : Int) + 1).tmod (k : Int) = (h2 : Int) := by
        rw [Int.tmod_eq_emod_of_nonneg (by omega), ← hh2, Int.natCast_emod]
        rfl
      go_still_tail 14, (by kernel_rfl)
      change wpList _ _ _ _ _ (World.drew _)
      obtain ⟨W1, hW1⟩ : ∃ W, W0.drew = W := ⟨_, rfl⟩
      rw [hW1]
      have hC1 : CC rd W1 g gs img Dj { c with F := Fj, hand := hj } L := by rw [← hW1, ← hW0]; exact HCj.out.drewN (nq + 1)
      have hO1 : Own2 g gs w W1 := by rw [← hW1, ← hW0]; exact ⟨hO.os, hO.tape, hO.output, hO.size, hO.block⟩
      obtain ⟨d, hd⟩ : ∃ d, Dj[hj]? = some d := ⟨_, List.getElem?_eq_getElem (by rw [hC1.length, HFl.out]; exact hjk)⟩
      have hdF : Fj[hj]? = some d.f := hC1.at_ hd
      have hnx : nextH k hj = h2 := by rw [nextH_mod hjk, hh2]
      have hf1 : ∀ z, W1.frozen? ⟨g, z, none⟩ = false := fun z => hC1.head.free z
      have r1 : W1.cell? ⟨g, 2, none⟩ = some (.int .i64 (hj : Int)) := hC1.head.cell 2
      have hC2 := hC1.hand_ h2 (by show h2 < Fj.length; rw [HFl.out]; exact hh2k)
      have HC3 : Hid (Calls Tryd.prog 43 #[.pointer (some ⟨gs, hj * 4, none⟩)] (W1.setCell ⟨g, 2, none⟩ (.int .i64 (h2 : Int))) fun e w' => e = .returned (.bool (d.f.held == 0 && !d.f.mark)) ∧ CC rd w' g gs img (Dj.set hj ⟨lookF d.f, d.z⟩) { c with F := Fj.set hj (lookF d.f), hand := h2 } L ∧ Own2 g gs (W1.setCell ⟨g, 2, none⟩ (.int .i64 (h2 : Int))) w') := Lib.hid (room1_any hC2 hd)
      have hO2 : Own2 g gs w (W1.setCell ⟨g, 2, none⟩ (.int .i64 (h2 : Int))) := hO1.trans (own2_put (g := g) (gs := gs) (w := W1) (a := ⟨g, 2, none⟩) (.inl rfl) (.int .i64 (h2 : Int)))
      rw [← look_clear hdF] at HC3
      have HFr : Hid (freeF Fj hj = (d.f.held == 0 && !d.f.mark)) := Lib.hid (look_free hdF)
      have HNX := Lib.hid hnx
      have HH2 := Lib.hid hh2
      obtain ⟨mj, hmj⟩ : ∃ mj, K2 - j = mj + 1 := ⟨K2 - j - 1, by omega⟩
      rw [hmj] at HSj
      have HMj := Lib.hid hmj
      generalize (d.f.held == 0 && !d.f.mark) = m at HC3 HFr
      clear hC1 hC2 hO1 hW1 hW0 hd hdF hnx hO hmj hh2 q1 q2
      cases m
      · have HS2 : Hid (sweep K2 c.F c.hand = sweep mj (clearF Fj hj) h2) := Lib.hid (by rw [HSj.out, sweepN_step HFr.out, HFl.out, HNX.out])
        go_wp2_with (go_at_call 43; refine HC3.out.mono ?_; rintro e w3 ⟨rfl, hc3, ho3⟩; have HC4 := Lib.hid hc3; have HO4 := Lib.hid (hO2.trans ho3); clear hc3 ho3)
        go_roundw
        case rel =>
          refine ⟨j + 1, h2, _, clearF Fj hj, by omega, by go_num, hh2k, Lib.hid (by rw [clearF_length]; exact HFl.out), HC4, Lib.hid ?_, Lib.hid ?_, Lib.hid (fun hall => ?_), HO4.out⟩
          · rw [HS2.out]
            congr 1
            have := HMj.out
            omega
          · rw [← HH2.out, HHj.out, Nat.mod_add_mod]
            congr 1
          · rw [HAj.out hall]
            exact clearF_all hall hj
        case measure => simp [intOf]; omega
      · have HS2 : Hid (sweep K2 c.F c.hand = some (hj, Fj, h2)) := Lib.hid (by rw [HSj.out, sweepN_stop HFr.out, HFl.out, HNX.out])
        rw [clearF_free HFr.out] at HC3
        go_wp2_with (go_at_call 43; refine HC3.out.mono ?_; rintro e w3 ⟨rfl, hc3, ho3⟩; have HC4 := Lib.hid hc3; have HO4 := Lib.hid (hO2.trans ho3); clear hc3 ho3)
        go_ret
        refine ⟨fun i F' h' hs => ?_, fun hn => ?_, HO4.out⟩
        · rw [HS2.out] at hs
          cases hs
          exact ⟨rfl, _, HC4.out⟩
        · rw [HS2.out] at hn
          cases hn
    · obtain rfl : j = K2 := by omega
      have HN : Hid (sweep j c.F c.hand = none) := Lib.hid (by rw [HSj.out, Nat.sub_self]; rfl)
      have hall : ∀ f ∈ c.F, f.held ≠ 0 := none_held (by rw [HK.out]; exact hhand) (by rw [HK.out, hK2]; exact HN.out)
      have hFj := HAj.out hall
      have hhj : hj = c.hand := by rw [HHj.out, ← hK2, show c.hand + 2 * k = c.hand + k * 2 by omega, Nat.add_mul_mod_self_left, Nat.mod_eq_of_lt hhand]
      have hCj := HCj.out
      rw [hFj, hhj] at hCj
      have HC5 : Hid (CC rd wr g gs img Dj c L) := Lib.hid hCj
      clear hall hFj hhj hCj
      go_wp2_with fail
      go_ret
      exact ⟨fun i F' h' hs => (by rw [HN.out] at hs; cases hs), fun _ => ⟨rfl, _, HC5.out⟩, hO⟩
set_option maxRecDepth 100000 in
theorem room_any (h : CC rd w g gs img D c L) :
    Calls Tryd.prog 25 #[.pointer (some ⟨g, 0, none⟩)] w fun e w' => (∀ i, findF c.F (-1) = some i → e = .returned (.pointer (some ⟨gs, i * 4, none⟩)) ∧ w = w') ∧ (findF c.F (-1) = none → NextPost rd w g gs img c L e w') := by
  have HF := Lib.hid (cfirst_bare 31 (enters_of Tryd.func31 (by kernel_rfl) rfl) h isEmpty fun i d hd => cempty_any h hd)
  unfold firstV at HF
  rw [idx_empty] at HF
  have HN := Lib.hid (next_any h)
  clear h
  rcases hf : findF c.F (-1) with _ | i
  · rw [hf] at HF
    clear hf
    go_enter Tryd.func25, Tryd.ntmps25
    go_wp2_with fail
    refine HF.out.mono ?_
    rintro e w' ⟨rfl, rfl⟩
    go_wp2_with fail
    refine HN.out.mono ?_
    rintro e w' hN
    rcases hs : sweep (2 * c.F.length) c.F c.hand with _ | ⟨i, F', h'⟩
    · obtain ⟨rfl, _⟩ := hN.2.1 hs
      have HN2 := Lib.hid hN
      clear hN hs
      go_wp2_with fail
      go_ret
      exact ⟨fun i h => (by cases h), fun _ => HN2.out⟩
    · obtain ⟨rfl, _⟩ := hN.1 i F' h' hs
      have HN2 := Lib.hid hN
      clear hN hs
      go_wp2_with fail
      go_ret
      exact ⟨fun i h => (by cases h), fun _ => HN2.out⟩
  · rw [hf] at HF
    clear hf HN
    go_enter Tryd.func25, Tryd.ntmps25
    go_wp2_with fail
    refine HF.out.mono ?_
    rintro e w' ⟨rfl, rfl⟩
    go_wp2_with fail
    go_ret
    refine ⟨fun j h => ?_, fun h => (by cases h)⟩
    cases h
    exact ⟨rfl, rfl⟩
end
end Go.Proofs.YtjmajminfmcjcaaDoor
