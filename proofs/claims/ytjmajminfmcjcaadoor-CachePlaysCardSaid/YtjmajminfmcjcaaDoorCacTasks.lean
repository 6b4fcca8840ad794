/- The developers' first, count over frames; the small functions that they are given. The developers' Has, Drop, Stats. The developers' New; what is asked of a nil cache. -/
import Derived.Test.YtjmajminfmcjcaaDoorCacMem
import Derived.Test.YtjmajminfmcjcaaDoorCacDoc
import Derived.Shelf.Abstract
import Derived.StillTailTactics
namespace Go.Proofs.YtjmajminfmcjcaaDoor
open Go.RowKit

theorem idx_is {F : List Fr} {p : Fr → Bool} {i : Nat} {f : Fr} (hi : F[i]? = some f) (hp : p f = true) (hl : ∀ (j : Nat) (g : Fr), j < i → F[j]? = some g → p g = false) : F.findIdx? p = some i := by
  rw [List.findIdx?_eq_some_iff_getElem]
  obtain ⟨hil, he⟩ := List.getElem?_eq_some_iff.1 hi
  refine ⟨hil, by rw [he]; exact hp, fun j hj => ?_⟩
  have h := hl j F[j] hj (List.getElem?_eq_getElem (by omega))
  simpa using h
theorem idx_no {F : List Fr} {p : Fr → Bool} (hl : ∀ (j : Nat) (g : Fr), F[j]? = some g → p g = false) : F.findIdx? p = none := by
  rw [List.findIdx?_eq_none_iff]
  intro f hf
  obtain ⟨j, hj, rfl⟩ := List.getElem_of_mem hf
  exact hl j _ (List.getElem?_eq_getElem hj)
theorem idx_congr {F : List Fr} {p q : Fr → Bool} (h : ∀ f ∈ F, p f = q f) : F.findIdx? p = F.findIdx? q := by
  induction F with
  | nil => rfl
  | cons f F ih =>
    rw [List.findIdx?_cons, List.findIdx?_cons, h f (List.mem_cons_self ..), ih fun g hg => h g (List.mem_cons_of_mem _ hg)]
/-- what first answers. -/
def firstV (gs : Nat) (F : List Fr) (p : Fr → Bool) : Value := .pointer ((F.findIdx? p).map fun i => ⟨gs, i * 4, none⟩)

section
variable {rd : Nat → Prop} {w w' : World} {g gs : Nat} {img : Value} {D : List DF} {c : CS} {L : List Sec}

set_option maxRecDepth 100000 in
set_option maxHeartbeats 800000 in
theorem cfirst_one (F : Nat) (l : Value) (eg : ∀ args w, (callFunc F args).run Tryd.prog w = .ok (.enter F args) w) (h : CC rd w g gs img D c L) (p : Fr → Bool)
    (hF : ∀ (i : Nat) (d : DF), D[i]? = some d → Calls Tryd.prog F #[.pointer (some ⟨gs, i * 4, none⟩), l] w fun e w' => e = .returned (.bool (p d.f)) ∧ w = w') :
    Calls Tryd.prog 20 #[.pointer (some ⟨g, 0, none⟩), .func (.func F) #[] #[l]] w fun e w' => e = .returned (firstV gs c.F p) ∧ w = w' := by
  have HF := Lib.hid hF
  have HR := Lib.hid h
  have h1 := h.head.cell 1
  have hf := h.few
  have hl := h.length
  obtain ⟨k, hk⟩ : ∃ k, c.F.length = k := ⟨_, rfl⟩
  rw [hk] at h1 hf hl
  have HL := Lib.hid hl
  have HK := Lib.hid hk
  clear hk h hF hl
  go_enter Tryd.func20, Tryd.ntmps20
  go_wp2_with fail
  go_loop [13] (fun v => ∃ i : Nat, i ≤ k ∧ v = .int .i64 (i : Int) ∧ Hid (∀ (j : Nat) (f : Fr), j < i → c.F[j]? = some f → p f = false)) (fun v => k - (intOf v).toNat)
  case atStart => exact ⟨0, Nat.zero_le _, rfl, Lib.hid (fun j f hj => absurd hj (Nat.not_lt_zero j))⟩
  case round =>
    obtain ⟨i, hi, rfl, hall⟩ := hrel
    by_cases hlt : i < k
    · have hlti : (i : Int) < (k : Int) := by omega
      obtain ⟨d, hd⟩ : ∃ d, D[i]? = some d := ⟨_, List.getElem?_eq_getElem (by rw [HL.out]; exact hlt)⟩
      have HC := Lib.hid (HF.out i d hd)
      have HD := Lib.hid (HR.out.at_ hd)
      clear hd
      cases hp : p d.f
      · rw [hp] at HC
        have HP := Lib.hid hp
        clear hp
        go_wp2_with (go_at_fn F; refine HC.out.mono ?_; rintro e w' ⟨rfl, rfl⟩)
        go_round
        case rel =>
          refine ⟨i + 1, by omega, by go_num, Lib.hid (fun j d' hj h1 => ?_)⟩
          by_cases e : j < i
          · exact hall.out j d' e h1
          · obtain rfl : j = i := by omega
            rw [HD.out] at h1
            cases h1
            exact HP.out
        case measure => simp [intOf]; omega
      · rw [hp] at HC
        have HI := Lib.hid (idx_is HD.out hp hall.out)
        clear hp
        go_wp2_with (go_at_fn F; refine HC.out.mono ?_; rintro e w' ⟨rfl, rfl⟩)
        go_ret
        unfold firstV
        rw [HI.out]
        exact ⟨rfl, rfl⟩
    · obtain rfl : i = k := by omega
      have HI : Hid (c.F.findIdx? p = none) := Lib.hid (idx_no fun j d hd => hall.out j d (by have h1 := (List.getElem?_eq_some_iff.1 hd).1; have h2 := HK.out; omega) hd)
      go_wp2_with fail
      go_ret
      unfold firstV
      rw [HI.out]
      exact ⟨rfl, rfl⟩

set_option maxRecDepth 100000 in
set_option maxHeartbeats 800000 in
theorem cfirst_bare (F : Nat) (eg : ∀ args w, (callFunc F args).run Tryd.prog w = .ok (.enter F args) w) (h : CC rd w g gs img D c L) (p : Fr → Bool)
    (hF : ∀ (i : Nat) (d : DF), D[i]? = some d → Calls Tryd.prog F #[.pointer (some ⟨gs, i * 4, none⟩)] w fun e w' => e = .returned (.bool (p d.f)) ∧ w = w') :
    Calls Tryd.prog 20 #[.pointer (some ⟨g, 0, none⟩), .func (.func F) #[] #[]] w fun e w' => e = .returned (firstV gs c.F p) ∧ w = w' := by
  have HF := Lib.hid hF
  have HR := Lib.hid h
  have h1 := h.head.cell 1
  have hf := h.few
  have hl := h.length
  obtain ⟨k, hk⟩ : ∃ k, c.F.length = k := ⟨_, rfl⟩
  rw [hk] at h1 hf hl
  have HL := Lib.hid hl
  have HK := Lib.hid hk
  clear hk h hF hl
  go_enter Tryd.func20, Tryd.ntmps20
  go_wp2_with fail
  go_loop [13] (fun v => ∃ i : Nat, i ≤ k ∧ v = .int .i64 (i : Int) ∧ Hid (∀ (j : Nat) (f : Fr), j < i → c.F[j]? = some f → p f = false)) (fun v => k - (intOf v).toNat)
  case atStart => exact ⟨0, Nat.zero_le _, rfl, Lib.hid (fun j f hj => absurd hj (Nat.not_lt_zero j))⟩
  case round =>
    obtain ⟨i, hi, rfl, hall⟩ := hrel
    by_cases hlt : i < k
    · have hlti : (i : Int) < (k : Int) := by omega
      obtain ⟨d, hd⟩ : ∃ d, D[i]? = some d := ⟨_, List.getElem?_eq_getElem (by rw [HL.out]; exact hlt)⟩
      have HC := Lib.hid (HF.out i d hd)
      have HD := Lib.hid (HR.out.at_ hd)
      clear hd
      cases hp : p d.f
      · rw [hp] at HC
        have HP := Lib.hid hp
        clear hp
        go_wp2_with (go_at_fn F; refine HC.out.mono ?_; rintro e w' ⟨rfl, rfl⟩)
        go_round
        case rel =>
          refine ⟨i + 1, by omega, by go_num, Lib.hid (fun j d' hj h1 => ?_)⟩
          by_cases e : j < i
          · exact hall.out j d' e h1
          · obtain rfl : j = i := by omega
            rw [HD.out] at h1
            cases h1
            exact HP.out
        case measure => simp [intOf]; omega
      · rw [hp] at HC
        have HI := Lib.hid (idx_is HD.out hp hall.out)
        clear hp
        go_wp2_with (go_at_fn F; refine HC.out.mono ?_; rintro e w' ⟨rfl, rfl⟩)
        go_ret
        unfold firstV
        rw [HI.out]
        exact ⟨rfl, rfl⟩
    · obtain rfl : i = k := by omega
      have HI : Hid (c.F.findIdx? p = none) := Lib.hid (idx_no fun j d hd => hall.out j d (by have h1 := (List.getElem?_eq_some_iff.1 hd).1; have h2 := HK.out; omega) hd)
      go_wp2_with fail
      go_ret
      unfold firstV
      rw [HI.out]
      exact ⟨rfl, rfl⟩

set_option maxRecDepth 100000 in
set_option maxHeartbeats 800000 in
theorem ccount_any (F : Nat) (eg : ∀ args w, (callFunc F args).run Tryd.prog w = .ok (.enter F args) w) (h : CC rd w g gs img D c L) (p : Fr → Bool)
    (hF : ∀ (i : Nat) (d : DF), D[i]? = some d → Calls Tryd.prog F #[.pointer (some ⟨gs, i * 4, none⟩)] w fun e w' => e = .returned (.bool (p d.f)) ∧ w = w') :
    Calls Tryd.prog 29 #[.pointer (some ⟨g, 0, none⟩), .func (.func F) #[] #[]] w fun e w' => e = .returned (.int .i64 ((c.F.countP p : Nat) : Int)) ∧ w = w' := by
  have HF := Lib.hid hF
  have HR := Lib.hid h
  have h1 := h.head.cell 1
  have hf := h.few
  have hl := h.length
  obtain ⟨k, hk⟩ : ∃ k, c.F.length = k := ⟨_, rfl⟩
  rw [hk] at h1 hf hl
  have HL := Lib.hid hl
  have HK := Lib.hid hk
  clear hk h hF hl
  go_enter Tryd.func29, Tryd.ntmps29
  go_wp2_with fail
  go_loop [5, 12] (fun s v => ∃ i m : Nat, i ≤ k ∧ m ≤ i ∧ s = .int .i64 (m : Int) ∧ v = .int .i64 (i : Int) ∧ Hid (m = (c.F.take i).countP p)) (fun _ v => k - (intOf v).toNat)
  case atStart => exact ⟨0, 0, Nat.zero_le _, Nat.le_refl _, rfl, rfl, Lib.hid rfl⟩
  case round =>
    obtain ⟨i, m, hi, hm, rfl, rfl, hall⟩ := hrel
    by_cases hlt : i < k
    · have hlti : (i : Int) < (k : Int) := by omega
      obtain ⟨d, hd⟩ : ∃ d, D[i]? = some d := ⟨_, List.getElem?_eq_getElem (by rw [HL.out]; exact hlt)⟩
      have HC := Lib.hid (HF.out i d hd)
      have HD := Lib.hid (HR.out.at_ hd)
      clear hd
      cases hp : p d.f
      · rw [hp] at HC
        have HS : Hid (m = (c.F.take (i + 1)).countP p) := Lib.hid (by rw [countP_take p HD.out, hp, hall.out]; rfl)
        clear hp
        go_wp2_with (go_at_fn F; refine HC.out.mono ?_; rintro e w' ⟨rfl, rfl⟩)
        go_round
        case rel => exact ⟨i + 1, m, by omega, by omega, rfl, by go_num, HS⟩
        case measure => simp [intOf]; omega
      · rw [hp] at HC
        have HS : Hid (m + 1 = (c.F.take (i + 1)).countP p) := Lib.hid (by rw [countP_take p HD.out, hp, hall.out]; rfl)
        clear hp
        go_wp2_with (go_at_fn F; refine HC.out.mono ?_; rintro e w' ⟨rfl, rfl⟩)
        go_round
        case rel => exact ⟨i + 1, m + 1, by omega, by omega, by go_num, by go_num, HS⟩
        case measure => simp [intOf]; omega
    · obtain rfl : i = k := by omega
      have HI : Hid (m = c.F.countP p) := Lib.hid (by rw [hall.out, List.take_of_length_le (by rw [HK.out]; exact Nat.le_refl _)])
      go_wp2_with fail
      go_ret
      rw [← HI.out]
      exact ⟨rfl, rfl⟩

/-! The small functions. -/
set_option maxRecDepth 100000 in
theorem hold1_any (h : CC rd w g gs img D c L) {b : Nat} {n : Int} (hn : w.cell? ⟨b, 0, none⟩ = some (.int .i64 n)) {i : Nat} {d : DF} (hd : D[i]? = some d) :
    Calls Tryd.prog 21 #[.pointer (some ⟨gs, i * 4, none⟩), .pointer (some ⟨b, 0, none⟩)] w fun e w' => e = .returned (.bool (hasPage n d.f)) ∧ w = w' := by
  have HH := Lib.hid (chas_any h hd n)
  generalize hasPage n d.f = q at HH ⊢
  clear h hd
  go_enter Tryd.func21, Tryd.ntmps21
  go_wp2_with fail
  refine HH.out.mono ?_
  rintro e w' ⟨rfl, rfl⟩
  go_wp2_with fail
  go_ret
  exact ⟨rfl, rfl⟩
set_option maxRecDepth 100000 in
theorem has1_any (h : CC rd w g gs img D c L) {b : Nat} {n : Int} (hn : w.cell? ⟨b, 0, none⟩ = some (.int .i64 n)) {i : Nat} {d : DF} (hd : D[i]? = some d) :
    Calls Tryd.prog 28 #[.pointer (some ⟨gs, i * 4, none⟩), .pointer (some ⟨b, 0, none⟩)] w fun e w' => e = .returned (.bool (hasPage n d.f)) ∧ w = w' := by
  have HH := Lib.hid (chas_any h hd n)
  generalize hasPage n d.f = q at HH ⊢
  clear h hd
  go_enter Tryd.func28, Tryd.ntmps28
  go_wp2_with fail
  refine HH.out.mono ?_
  rintro e w' ⟨rfl, rfl⟩
  go_wp2_with fail
  go_ret
  exact ⟨rfl, rfl⟩
set_option maxRecDepth 100000 in
theorem drop1_any (h : CC rd w g gs img D c L) {b : Nat} {n : Int} (hn : w.cell? ⟨b, 0, none⟩ = some (.int .i64 n)) {i : Nat} {d : DF} (hd : D[i]? = some d) :
    Calls Tryd.prog 27 #[.pointer (some ⟨gs, i * 4, none⟩), .pointer (some ⟨b, 0, none⟩)] w fun e w' => e = .returned (.bool (hasPage n d.f && decide (0 < d.f.held))) ∧ w = w' := by
  have HH := Lib.hid (chas_any h hd n)
  have hh : w.cell? ⟨gs, i * 4 + 2, none⟩ = some (.int .i64 (d.f.held : Int)) := h.field (j := 2) hd (by decide)
  generalize hasPage n d.f = q at HH ⊢
  clear h hd
  cases q
  · go_enter Tryd.func27, Tryd.ntmps27
    go_wp2_with fail
    refine HH.out.mono ?_
    rintro e w' ⟨rfl, rfl⟩
    go_wp2_with fail
    go_ret
    exact ⟨rfl, rfl⟩
  · go_enter Tryd.func27, Tryd.ntmps27
    go_wp2_with fail
    refine HH.out.mono ?_
    rintro e w' ⟨rfl, rfl⟩
    go_wp2_with fail
    go_ret
    exact ⟨rfl, rfl⟩
set_option maxRecDepth 100000 in
theorem stats1_any (h : CC rd w g gs img D c L) {i : Nat} {d : DF} (hd : D[i]? = some d) :
    Calls Tryd.prog 30 #[.pointer (some ⟨gs, i * 4, none⟩)] w fun e w' => e = .returned (.bool (!isEmpty d.f)) ∧ w = w' := by
  have HH := Lib.hid (cempty_any h hd)
  generalize isEmpty d.f = q at HH ⊢
  clear h hd
  go_enter Tryd.func30, Tryd.ntmps30
  go_wp2_with fail
  refine HH.out.mono ?_
  rintro e w' ⟨rfl, rfl⟩
  go_wp2_with fail
  go_ret
  exact ⟨rfl, rfl⟩
set_option maxRecDepth 100000 in
theorem stats2_any (h : CC rd w g gs img D c L) {i : Nat} {d : DF} (hd : D[i]? = some d) :
    Calls Tryd.prog 32 #[.pointer (some ⟨gs, i * 4, none⟩)] w fun e w' => e = .returned (.bool (decide (0 < d.f.held))) ∧ w = w' := by
  have hh : w.cell? ⟨gs, i * 4 + 2, none⟩ = some (.int .i64 (d.f.held : Int)) := h.field (j := 2) hd (by decide)
  clear h hd
  go_enter Tryd.func32, Tryd.ntmps32
  go_wp2_with fail
  go_ret
  exact ⟨rfl, rfl⟩
end
end Go.Proofs.YtjmajminfmcjcaaDoor

namespace Go.Proofs.YtjmajminfmcjcaaDoor
open Go.RowKit

theorem idx_page {F : List Fr} {n : Int} (h : 0 ≤ n) : F.findIdx? (hasPage n) = findF F n := by
  unfold findF
  refine idx_congr fun f _ => ?_
  unfold hasPage
  by_cases e : f.page = n
  · rw [decide_eq_true (by omega)]; rfl
  · have : (f.page == n) = false := by simpa using e
    rw [this, Bool.and_false]
theorem idx_neg {F : List Fr} {n : Int} (h : n < 0) : F.findIdx? (hasPage n) = none := idx_no fun j f _ => by
  unfold hasPage
  by_cases e : f.page = n
  · rw [decide_eq_false (by omega)]; rfl
  · have : (f.page == n) = false := by simpa using e
    rw [this, Bool.and_false]
theorem idx_empty {F : List Fr} : F.findIdx? isEmpty = findF F (-1) := by
  unfold findF
  refine idx_congr fun f _ => ?_
  unfold isEmpty
  by_cases e : f.page = -1
  · rw [decide_eq_true e, e]; rfl
  · have : (f.page == -1) = false := by simpa using e
    rw [decide_eq_false e, this]
/-- the frame that Drop looks for. -/
theorem idx_drop {F : List Fr} (hU : Unlike F) {n : Int} : F.findIdx? (fun f => hasPage n f && decide (0 < f.held)) = if n < 0 ∨ heldF F n = 0 then none else findF F n := by
  by_cases hn : n < 0
  · rw [if_pos (.inl hn)]
    refine idx_no fun j f _ => ?_
    unfold hasPage
    by_cases e : f.page = n
    · rw [decide_eq_false (show ¬ 0 ≤ f.page by omega)]; rfl
    · have : (f.page == n) = false := by simpa using e
      rw [this, Bool.and_false, Bool.false_and]
  · by_cases h0 : heldF F n = 0
    · rw [if_pos (.inr h0)]
      refine idx_no fun j f hf => ?_
      by_cases e : f.page = n
      · rw [heldF_is hU (by omega) hf e] at h0
        rw [decide_eq_false (show ¬ 0 < f.held by omega), Bool.and_false]
      · unfold hasPage
        have : (f.page == n) = false := by simpa using e
        rw [this, Bool.and_false, Bool.false_and]
    · rw [if_neg (by omega)]
      rcases hf : findF F n with _ | i
      · unfold heldF at h0
        rw [hf] at h0
        exact absurd rfl h0
      · obtain ⟨f, h1, h2, h3⟩ := findF_some hf
        rw [heldF_is hU (by omega) h1 h2] at h0
        refine idx_is h1 ?_ fun j g hj hg => ?_
        · unfold hasPage
          rw [decide_eq_true (show 0 ≤ f.page by omega), decide_eq_true (show 0 < f.held by omega), h2]
          simp
        · have : (g.page == n) = false := by simpa using h3 j g hj hg
          unfold hasPage
          rw [this, Bool.and_false, Bool.false_and]

section
variable {rd : Nat → Prop} {w w' : World} {g gs : Nat} {img : Value} {D : List DF} {c : CS} {L : List Sec}
/-- where the cache may have turned. -/
theorem own2_box {o : Obj} : Own2 g gs w (w.alloc o) := Off.call ((Below.refl _ _).alloc (Nat.le_refl _) o)
set_option maxRecDepth 100000 in
theorem cacheHas_any (h : CC rd w g gs img D c L) (n : Int) :
    Calls Tryd.prog 14 #[.pointer (some ⟨g, 0, none⟩), .int .i64 n] w fun e w' => e = .returned (.bool (hasR c n)) ∧ Below w.heap.size w w' := by
  have hb : Below w.heap.size w (w.alloc (.cells #[.int .i64 n] 3)) := (Below.refl _ _).alloc (Nat.le_refl _) _
  have hl := (lies_new w 3 [.int .i64 n]).cell 0
  have HF := Lib.hid (cfirst_one 28 (.pointer (some ⟨w.heap.size, 0, none⟩)) (enters_of Tryd.func28 (by kernel_rfl) rfl) (h.alloc (.cells #[.int .i64 n] 3)) (hasPage n) fun i d hd => has1_any (h.alloc _) hl hd)
  have hr : hasR c n = (c.F.findIdx? (hasPage n)).isSome := by
    unfold hasR
    by_cases hn : n < 0
    · rw [idx_neg hn, decide_eq_false (by omega)]; rfl
    · rw [idx_page (by omega), decide_eq_true (by omega), Bool.true_and]
  rw [hr]
  unfold firstV at HF
  generalize c.F.findIdx? (hasPage n) = r at HF ⊢
  clear h hl hr
  rcases r with _ | i
  · go_enter Tryd.func14, Tryd.ntmps14
    go_wp2_with fail
    refine HF.out.mono ?_
    rintro e w' ⟨rfl, rfl⟩
    go_wp2_with fail
    go_ret
    exact ⟨rfl, hb⟩
  · go_enter Tryd.func14, Tryd.ntmps14
    go_wp2_with fail
    refine HF.out.mono ?_
    rintro e w' ⟨rfl, rfl⟩
    go_wp2_with fail
    go_ret
    exact ⟨rfl, hb⟩
theorem dset_f {D : List DF} {c : CS} (h : D.map DF.f = c.F) (i : Nat) (f : Fr) (z : Value) : (D.set i ⟨f, z⟩).map DF.f = c.F.set i f := by rw [List.map_set, h]
set_option maxRecDepth 100000 in
set_option maxHeartbeats 800000 in
theorem cacheDrop_any (h : CC rd w g gs img D c L) (hq : ∀ (i : Nat) (f : Fr), c.F[i]? = some f → f.held < 2 ^ 62) (n : Int) :
    Calls Tryd.prog 12 #[.pointer (some ⟨g, 0, none⟩), .int .i64 n] w fun e w' => e = .returned (.bool (dropR c n).2) ∧ (∃ D', CC rd w' g gs img D' (dropR c n).1 L) ∧ Own2 g gs w w' := by
  have hl := (lies_new w 3 [.int .i64 n]).cell 0
  have hA := h.alloc (.cells #[.int .i64 n] 3)
  have hO : Own2 g gs w (w.alloc (.cells #[.int .i64 n] 3)) := own2_box
  have HF := Lib.hid (cfirst_one 27 (.pointer (some ⟨w.heap.size, 0, none⟩)) (enters_of Tryd.func27 (by kernel_rfl) rfl) hA (fun f => hasPage n f && decide (0 < f.held)) fun i d hd => drop1_any hA hl hd)
  unfold firstV at HF
  rw [idx_drop h.unlike] at HF
  by_cases hz : n < 0 ∨ heldF c.F n = 0
  · have hr : dropR c n = (c, false) := by unfold dropR; rw [if_pos hz]
    rw [if_pos hz] at HF
    rw [hr]
    have HA := Lib.hid hA
    clear h hA
    go_enter Tryd.func12, Tryd.ntmps12
    go_wp2_with fail
    refine HF.out.mono ?_
    rintro e w' ⟨rfl, rfl⟩
    go_wp2_with fail
    go_ret
    exact ⟨rfl, ⟨D, HA.out⟩, hO⟩
  · rw [if_neg hz] at HF
    rcases hf : findF c.F n with _ | i
    · exfalso
      apply hz
      right
      unfold heldF
      rw [hf]
    · obtain ⟨f, hfi, hfp, _⟩ := findF_some hf
      have hr : dropR c n = ({ c with F := c.F.modify i fun f => { f with held := f.held - 1 } }, true) := by
        unfold dropR
        rw [if_neg hz, hf]
      have hh0 : f.held ≠ 0 := fun e => hz (.inr (by rw [heldF_is h.unlike (by omega) hfi hfp, e]))
      have hil := (List.getElem?_eq_some_iff.1 hfi).1
      obtain ⟨d, hd⟩ : ∃ d, D[i]? = some d := ⟨_, List.getElem?_eq_getElem (by rw [h.length]; exact hil)⟩
      have hdf : d.f = f := by
        have h1 := h.at_ hd
        rw [hfi] at h1
        cases h1
        rfl
      subst hdf
      have hb := hq i _ hfi
      have hc : (w.alloc (.cells #[.int .i64 n] 3)).cell? ⟨gs, i * 4 + 2, none⟩ = some (.int .i64 (d.f.held : Int)) := hA.field (j := 2) hd (by decide)
      have hfz := hA.free (i * 4 + 2)
      have hw : IntKind.i64.wrap ((d.f.held : Int) - 1) = ((d.f.held - 1 : Nat) : Int) := by
        rw [IntWalk.i64_in _ (by omega)]
        omega
      have hP := hA.put (i := i) (j := 2) (f' := { d.f with held := d.f.held - 1 }) hd (by decide) rfl (by
        intro j' hj' hne
        match j', hj', hne with
        | 0, _, _ => rfl
        | 1, _, _ => rfl
        | 3, _, _ => rfl)
      have HP := Lib.hid hP
      rw [hr, modify_at hfi]
      rw [hf] at HF
      clear h hA hP hf hr hfi
      go_enter Tryd.func12, Tryd.ntmps12
      go_wp2_with fail
      refine HF.out.mono ?_
      rintro e w' ⟨rfl, rfl⟩
      go_wp2_with fail
      go_ret
      exact ⟨rfl, ⟨_, HP.out⟩, hO.trans (own2_put (a := ⟨gs, i * 4 + 2, none⟩) (.inr rfl) _)⟩
theorem heldN_count {F : List Fr} {n : Nat} (h : Paged F n) : F.countP (fun f => !isEmpty f) = heldN F := by
  unfold heldN
  refine List.countP_congr fun f hf => ?_
  unfold isEmpty
  rcases h f hf with h | h
  · rw [h]; simp
  · have h1 : ¬ f.page = -1 := by omega
    simp [h1, h.1]
set_option maxRecDepth 100000 in
set_option maxHeartbeats 800000 in
theorem cacheStats_any (h : CC rd w g gs img D c L) :
    Calls Tryd.prog 15 #[.pointer (some ⟨g, 0, none⟩)] w fun e w' => e = .returned (.agg #[.int .i64 (c.hits : Int), .int .i64 (c.misses : Int), .int .i64 (heldN c.F : Int), .int .i64 (pinnedN c.F : Int)]) ∧ Below w.heap.size w w' := by
  obtain ⟨lo, hlo⟩ : ∃ lo, w.heap.size = lo := ⟨_, rfl⟩
  obtain ⟨wA, hwA⟩ : ∃ W, w.alloc (.cells #[.int .i64 0, .int .i64 0, .int .i64 0, .int .i64 0] 44) = W := ⟨_, rfl⟩
  have hbA : Below lo w wA := by rw [← hwA, ← hlo]; exact (Below.refl _ _).alloc (Nat.le_refl _) _
  have hlA : Lies wA lo 44 [.int .i64 0, .int .i64 0, .int .i64 0, .int .i64 0] := by rw [← hwA, ← hlo]; exact lies_new w _ _
  have hA : CC rd wA g gs img D c L := by rw [← hwA]; exact h.alloc _
  have eg1 := enters_of Tryd.func30 (by kernel_rfl) rfl
  have eg2 := enters_of Tryd.func32 (by kernel_rfl) rfl
  obtain ⟨wD, hwD⟩ : ∃ W, wA.drew = W := ⟨_, rfl⟩
  have hD : CC rd wD g gs img D c L := by rw [← hwD]; exact hA.drewN 1
  have hlD : Lies wD lo 44 [.int .i64 0, .int .i64 0, .int .i64 0, .int .i64 0] := by rw [← hwD]; exact hlA
  have hbD : Below lo w wD := by rw [← hwD]; exact below_drew' hbA
  have H1 : Hid (Calls Tryd.prog 29 #[.pointer (some ⟨g, 0, none⟩), .func (.func 30) #[] #[]] wD fun e w' => e = .returned (.int .i64 (heldN c.F : Int)) ∧ wD = w') := Lib.hid (by
    rw [← heldN_count h.paged]
    exact ccount_any 30 eg1 hD (fun f => !isEmpty f) fun i d hd => stats1_any hD hd)
  have H2 : Hid (Calls Tryd.prog 29 #[.pointer (some ⟨g, 0, none⟩), .func (.func 32) #[] #[]] wD fun e w' => e = .returned (.int .i64 (pinnedN c.F : Int)) ∧ wD = w') := Lib.hid (
    ccount_any 32 eg2 hD (fun f => decide (0 < f.held)) fun i d hd => stats2_any hD hd)
  have H1q := H1.out.mono fun e w' ⟨h1, h2⟩ => (⟨h1, h2.symm⟩ : e = Ending.returned (.int .i64 (heldN c.F : Int)) ∧ w' = wD)
  have H2q := H2.out.mono fun e w' ⟨h1, h2⟩ => (⟨h1, h2.symm⟩ : e = Ending.returned (.int .i64 (pinnedN c.F : Int)) ∧ w' = wD)
  have H1q := Lib.hid H1q
  have H2q := Lib.hid H2q
  have c3 : wD.cell? ⟨g, 3, none⟩ = some (.int .i64 (c.hits : Int)) := hD.head.cell 3
  have c4 : wD.cell? ⟨g, 4, none⟩ = some (.int .i64 (c.misses : Int)) := hD.head.cell 4
  have z0 : wD.cell? ⟨lo, 0, none⟩ = some (.int .i64 0) := hlD.cell 0
  have z1 : wD.cell? ⟨lo, 1, none⟩ = some (.int .i64 0) := hlD.cell 1
  have z2 : wD.cell? ⟨lo, 2, none⟩ = some (.int .i64 0) := hlD.cell 2
  have z3 : wD.cell? ⟨lo, 3, none⟩ = some (.int .i64 0) := hlD.cell 3
  have zf : ∀ z, wD.frozen? ⟨lo, z, none⟩ = false := fun z => hlD.free z
  have HLD := Lib.hid hlD
  rw [hlo]
  clear h hA hlA hD hlD
  go_enter Tryd.func15, Tryd.ntmps15
  go_wp2_with fail
  go_still_tail 13, (by kernel_rfl)
  still_call H1q.out
  repeat still_step
  still_call H2q.out
  repeat still_step
  refine wpStill_nil ?_
  change wpList _ _ _ _ _ wA.drew
  rw [hwD]
  go_wp2_with fail
  have hE := (((HLD.out.put 0 (.int .i64 (c.hits : Int))).put 1 (.int .i64 (c.misses : Int))).put 2 (.int .i64 (heldN c.F : Int))).put 3 (.int .i64 (pinnedN c.F : Int))
  have y0 := hE.cell 0
  have y1 := hE.cell 1
  have y2 := hE.cell 2
  have y3 := hE.cell 3
  simp at y0 y1 y2 y3
  refine bodyPost_ret (v := .agg #[.int .i64 (c.hits : Int), .int .i64 (c.misses : Int), .int .i64 (heldN c.F : Int), .int .i64 (pinnedN c.F : Int)]) ?_ rfl ⟨rfl, ((((hbD.setCell (p := ⟨lo, 0, none⟩) (Nat.le_refl _) _).setCell (p := ⟨lo, 1, none⟩) (Nat.le_refl _) _).setCell (p := ⟨lo, 2, none⟩) (Nat.le_refl _) _).setCell (p := ⟨lo, 3, none⟩) (Nat.le_refl _) _)⟩
  simp [results, Tryd.results15, go_sem, y0, y1, y2, y3]
end
end Go.Proofs.YtjmajminfmcjcaaDoor

namespace Go.Proofs.YtjmajminfmcjcaaDoor
open Go.RowKit

theorem info_dframe : (Tryd.prog.info? 64).map (fun i => (i.zero, i.size, i.bytes)) = some (some (.agg #[.int .i64 0, .slice none 0 0, .int .i64 0, .bool false]), 4, 48) := by kernel_rfl
/-- an empty frame. -/
def d0 : DF := ⟨⟨-1, 0, false⟩, .slice none 0 0⟩
theorem made_frames (k : Nat) : madeCells (Value.agg #[.int .i64 0, .slice none 0 0, .int .i64 0, .bool false]).cells (k * 4) = (dcells (List.replicate k d0)).toArray := by
  apply Array.ext'
  apply List.ext_getElem?
  intro i
  show _ = (dcells (List.replicate k d0))[i]?
  rw [dcells_get]
  by_cases h : i < k * 4
  · rw [List.getElem?_replicate, if_pos (by omega)]
    have h4 : i % 4 = 0 ∨ i % 4 = 1 ∨ i % 4 = 2 ∨ i % 4 = 3 := by omega
    rcases h4 with e | e | e | e <;> simp [madeCells, Value.cells, h, e, fieldD, pg, d0]
  · rw [List.getElem?_replicate, if_neg (by omega)]
    simp [madeCells, h]

set_option maxRecDepth 100000 in
set_option maxHeartbeats 800000 in
theorem cacheNew_any {B : Nat} {w : World} {v : Value} {L : List Sec} (h : ImgAt B w v L) (k : Nat) (hk : 1 ≤ k ∧ k ≤ 4096) :
    Calls Tryd.prog 17 #[v, .int .i64 (k : Int)] w fun e w' => ∃ rd g gs D, e = .returned (.tuple #[.pointer (some ⟨g, 0, none⟩), .int .i64 0]) ∧ CC rd w' g gs v D (newC (allPages L) k) L ∧ (∀ j, rd j → B ≤ j ∧ j < w.heap.size) ∧ w.heap.size ≤ g ∧ w.heap.size ≤ gs ∧ Below w.heap.size w w' := by
  obtain ⟨rd, hI, hrd⟩ := ImgOn.of_at h
  obtain ⟨ga, hv⟩ : ∃ ga : Nat, v = .pointer (some ⟨ga, 0, none⟩) := by
    obtain ⟨g, _, _, _, _, _, h1, _⟩ := h
    exact ⟨g, h1⟩
  subst hv
  clear h
  obtain ⟨i0, hi0, hz0, hs0, hb0⟩ := info_parts info_dframe
  have hmk := run_make (P := Tryd.prog) w 65 64 i0 _ Tryd.underlying65 hi0 hz0 .i64 .i64 (k : Int) (k : Int) (by omega) (Int.le_refl _) (by rw [hb0]; omega) (by omega)
  rw [hs0] at hmk
  simp only [Int.toNat_natCast] at hmk
  rw [made_frames] at hmk
  obtain ⟨lo, hlo⟩ : ∃ lo, w.heap.size = lo := ⟨_, rfl⟩
  obtain ⟨wA, hwA⟩ : ∃ W, w.alloc (.cells (dcells (List.replicate k d0)).toArray 64) = W := ⟨_, rfl⟩
  have hzA : wA.heap.size = lo + 1 := by rw [← hwA, size_alloc, hlo]
  have hbA : Below lo w wA := by rw [← hwA, ← hlo]; exact (Below.refl _ _).alloc (Nat.le_refl _) _
  have hlA : Lies wA lo 64 (dcells (List.replicate k d0)) := by rw [← hwA, ← hlo]; exact lies_new w _ _
  rw [hwA, hlo] at hmk
  have hd1 : decide ((k : Int) < 1) = false := by simp; omega
  have hd2 : decide ((4096 : Int) < (k : Int)) = false := by simp; omega
  obtain ⟨wB, hwB⟩ : ∃ W, wA.alloc (.cells #[.pointer (some ⟨ga, 0, none⟩), .slice (some ⟨lo, 0, none⟩) k k, .int .i64 0, .int .i64 0, .int .i64 0] 67) = W := ⟨_, rfl⟩
  have hbB : Below lo w wB := by rw [← hwB]; exact hbA.alloc (by omega) _
  have hlB : Lies wB (lo + 1) 67 [.pointer (some ⟨ga, 0, none⟩), .slice (some ⟨lo, 0, none⟩) k k, .int .i64 0, .int .i64 0, .int .i64 0] := by rw [← hwB, ← hzA]; exact lies_new wA _ _
  have hlF : Lies wB lo 64 (dcells (List.replicate k d0)) := by rw [← hwB]; exact hlA.alloc _
  have hlen : (newC (allPages L) k).F.length = k := List.length_replicate
  have hC : CC rd wB (lo + 1) lo (.pointer (some ⟨ga, 0, none⟩)) (List.replicate k d0) (newC (allPages L) k) L := by
    refine ⟨by rw [hlen]; exact hlB, hlF, by rw [List.map_replicate]; rfl, by rw [hlen]; show 0 < k; omega, by rw [hlen]; exact hk.2, Unlike.new _ _, Paged.new _ _, rfl, hI.keep hbB.size (fun j hj => hbB.block j (by rw [← hlo]; exact (hrd j hj).2)), ⟨fun e => by have := (hrd _ e).2; omega, fun e => by have := (hrd _ e).2; omega⟩, fun d hd => ?_, fun j hj => by have h1 := (hrd j hj).2; have h2 := hbB.size; omega⟩
    have := List.eq_of_mem_replicate hd
    subst this
    exact ⟨fun _ => rfl, fun h => by
      have h : (0 : Int) ≤ -1 := h
      omega⟩
  have HC := Lib.hid hC
  have HRD := Lib.hid hrd
  rw [hlo] at HRD ⊢
  clear hC hrd hlF hlB hlA hI hbA
  go_enter Tryd.func17, Tryd.ntmps17
  go_wp2_with fail
  go_ret2
  exact ⟨rd, lo + 1, lo, _, rfl, HC.out, HRD.out, by omega, Nat.le_refl _, hbB⟩
set_option maxRecDepth 100000 in
theorem cacheNew_bad (a : Addr) (x : Int) (w : World) (hx : ¬ (1 ≤ x ∧ x ≤ 4096)) :
    Calls Tryd.prog 17 #[.pointer (some a), .int .i64 x] w fun e w' => e = .returned (.tuple #[.pointer none, .int .i64 2]) ∧ Below w.heap.size w w' := by
  by_cases h1 : x < 1
  · have hd1 : decide (x < 1) = true := by simpa using h1
    go_enter Tryd.func17, Tryd.ntmps17
    go_wp2_with fail
    go_ret2
    exact ⟨rfl, Below.refl _ _⟩
  · have hd1 : decide (x < 1) = false := by simpa using h1
    have hd2 : decide (4096 < x) = true := by
      have : 4096 < x := by omega
      simpa using this
    go_enter Tryd.func17, Tryd.ntmps17
    go_wp2_with fail
    go_ret2
    exact ⟨rfl, Below.refl _ _⟩
set_option maxRecDepth 100000 in
theorem cacheNew_nil (x : Int) (w : World) :
    Calls Tryd.prog 17 #[.pointer none, .int .i64 x] w fun e w' => e = .returned (.tuple #[.pointer none, .int .i64 1]) ∧ Below w.heap.size w w' := by
  go_enter Tryd.func17, Tryd.ntmps17
  go_wp2_with fail
  go_ret2
  exact ⟨rfl, Below.refl _ _⟩

/-! Of a nil cache. -/
set_option maxRecDepth 100000 in
theorem first_nil (F : Nat) (lb : Array Value) (w : World) :
    Calls Tryd.prog 20 #[.pointer none, .func (.func F) #[] lb] w fun e w' => e = .returned (.pointer none) ∧ w = w' := by
  go_enter Tryd.func20, Tryd.ntmps20
  go_wp2_with fail
  go_ret
  exact ⟨rfl, rfl⟩
set_option maxRecDepth 100000 in
theorem nilHas (n : Int) (w : World) :
    Calls Tryd.prog 14 #[.pointer none, .int .i64 n] w fun e w' => e = .returned (.bool false) ∧ Below w.heap.size w w' := by
  have hb : Below w.heap.size w (w.alloc (.cells #[.int .i64 n] 3)) := (Below.refl _ _).alloc (Nat.le_refl _) _
  have HF := Lib.hid (first_nil 28 #[.pointer (some ⟨w.heap.size, 0, none⟩)] (w.alloc (.cells #[.int .i64 n] 3)))
  go_enter Tryd.func14, Tryd.ntmps14
  go_wp2_with fail
  refine HF.out.mono ?_
  rintro e w' ⟨rfl, rfl⟩
  go_wp2_with fail
  go_ret
  exact ⟨rfl, hb⟩
set_option maxRecDepth 100000 in
theorem nilDrop (n : Int) (w : World) :
    Calls Tryd.prog 12 #[.pointer none, .int .i64 n] w fun e w' => e = .returned (.bool false) ∧ Below w.heap.size w w' := by
  have hb : Below w.heap.size w (w.alloc (.cells #[.int .i64 n] 3)) := (Below.refl _ _).alloc (Nat.le_refl _) _
  have HF := Lib.hid (first_nil 27 #[.pointer (some ⟨w.heap.size, 0, none⟩)] (w.alloc (.cells #[.int .i64 n] 3)))
  go_enter Tryd.func12, Tryd.ntmps12
  go_wp2_with fail
  refine HF.out.mono ?_
  rintro e w' ⟨rfl, rfl⟩
  go_wp2_with fail
  go_ret
  exact ⟨rfl, hb⟩
set_option maxRecDepth 100000 in
theorem nilHold (n : Int) (w : World) :
    Calls Tryd.prog 10 #[.pointer none, .int .i64 n] w fun e w' => e = .returned (.tuple #[.slice none 0 0, .bool false, .int .i64 1]) ∧ Below w.heap.size w w' := by
  have hb : Below w.heap.size w (w.alloc (.cells #[.int .i64 n] 3)) := (Below.refl _ _).alloc (Nat.le_refl _) _
  go_enter Tryd.func10, Tryd.ntmps10
  go_wp2_with fail
  refine bodyPost_ret (v := .tuple #[.slice none 0 0, .bool false, .int .i64 1]) (by simp [results, Tryd.results10, go_sem]) rfl ?_
  exact ⟨rfl, hb⟩
set_option maxRecDepth 100000 in
theorem nilStats (w : World) :
    Calls Tryd.prog 15 #[.pointer none] w fun e w' => e = .returned (.agg #[.int .i64 0, .int .i64 0, .int .i64 0, .int .i64 0]) ∧ Below w.heap.size w w' := by
  have hl := lies_new w 44 [.int .i64 0, .int .i64 0, .int .i64 0, .int .i64 0]
  have hb : Below w.heap.size w (w.alloc (.cells #[.int .i64 0, .int .i64 0, .int .i64 0, .int .i64 0] 44)) := (Below.refl _ _).alloc (Nat.le_refl _) _
  have z0 := hl.cell 0
  have z1 := hl.cell 1
  have z2 := hl.cell 2
  have z3 := hl.cell 3
  have zf : ∀ z, (w.alloc (.cells #[.int .i64 0, .int .i64 0, .int .i64 0, .int .i64 0] 44)).frozen? ⟨w.heap.size, z, none⟩ = false := fun z => hl.free z
  have HL := Lib.hid hl
  clear hl
  go_enter Tryd.func15, Tryd.ntmps15
  go_wp2_with fail
  exact bodyPost_ret (v := .agg #[.int .i64 0, .int .i64 0, .int .i64 0, .int .i64 0]) (by simp [results, Tryd.results15, go_sem]) rfl ⟨rfl, hb⟩
end Go.Proofs.YtjmajminfmcjcaaDoor
