/- The developers' package text: Doc. -/
import Derived.Test.YtpdleigcdmgfmaaTxtRow
import Derived.Test.YtpdleigcdmgfmaaSearch
import Derived.Deep.RegionWith
namespace Go.Proofs.Ytpdleigcdmgfmaa
open Go.RowKit

section
variable {B : Nat} {w w' : World} {g : Nat} {X : Option Addr} {cx y cy : Nat} {T : List Part} {S : List Sec}
set_option maxRecDepth 100000 in
set_option maxHeartbeats 800000 in
/-- the literal that Doc hands to sort.Search. -/
theorem tdoc1_any (h : Txt B w g X cx y cy T S) (bt bp i p : Nat) (hi : i < S.length) (ht : w.cell? ⟨bt, 0, none⟩ = some (.pointer (some ⟨g, 0, none⟩))) (hp : w.cell? ⟨bp, 0, none⟩ = some (.int .i64 (p : Int))) :
    Calls Try.prog 31 #[.int .i64 (i : Int), .pointer (some ⟨bt, 0, none⟩), .pointer (some ⟨bp, 0, none⟩)] w fun e w' => e = .returned (.bool (decide (p < offT S (i + 1)))) ∧ ∃ q, w' = w.drewN q := by
  have h1 : ∀ q, (w.drewN q).cell? ⟨g, 1, none⟩ = some (.slice (some ⟨y, 0, none⟩) (S.length + 1) cy) := fun q => (h.keep (below_drewN' (Below.refl _ _) q)).c1
  have h2 : ∀ q, (w.drewN q).cell? ⟨y, i + 1, none⟩ = some (.int .i64 ((offT S (i + 1) : Nat) : Int)) := fun q => (h.keep (below_drewN' (Below.refl _ _) q)).start (by omega)
  have ht' : ∀ q, (w.drewN q).cell? ⟨bt, 0, none⟩ = some (.pointer (some ⟨g, 0, none⟩)) := fun _ => ht
  have hp' : ∀ q, (w.drewN q).cell? ⟨bp, 0, none⟩ = some (.int .i64 (p : Int)) := fun _ => hp
  have hr := h.right.1
  have hcy := owns_room h.starts
  obtain ⟨k, hk⟩ : ∃ k, S.length = k := ⟨_, rfl⟩
  obtain ⟨z, hz⟩ : ∃ z, offT S (i + 1) = z := ⟨_, rfl⟩
  rw [hk] at h1 hr hcy hi
  rw [hz] at h2 ⊢
  have hcm : cy ≤ 9223372036854775807 := by have := hcy.2; unfold maxLen at this; omega
  have hcl := hcy.1
  have hw1 : IntKind.i64.wrap ((i : Int) + 1) = ((i + 1 : Nat) : Int) := by rw [IntWalk.i64_in _ (by omega)]; omega
  clear h hk hz hcy ht hp
  go_enter Try.func31, Try.ntmps31
  go_wp2_with fail
  go_quiet (fail)
  go_wp2_with fail
  go_ret
  exact ⟨by simp, _, rfl⟩

theorem tquiet2 {w : World} {f : FuncId} {args : Array Value} {m : Nat} {v : Value} (h : Calls Try.prog f args (w.drewN m) fun e w' => e = .returned v ∧ ∃ q, w' = (w.drewN m).drewN q) :
    Calls Try.prog f args (w.drewN m) fun e w'' => e = .returned v ∧ ∃ j, w'' = w.drewN j := h.mono fun _ _ hh => ⟨hh.1, hh.2.elim fun q hq => ⟨m + q, hq.trans (World.drewN_drewN _ _ _)⟩⟩
/-- Doc where there is no such place. -/
theorem docI_out {S : List Sec} {p : Int} (h : p < 0 ∨ ((lenT S : Nat) : Int) ≤ p) : docI S p = (-1, -1) := by
  unfold docI
  by_cases h0 : p < 0
  · rw [if_pos h0]
  · rw [if_neg h0, locT_none (by omega)]
/-- Doc where there is one: the first document that ends behind the place. -/
theorem docI_in {S : List Sec} {p d : Nat} (hp : p < lenT S) (hd : d ≤ S.length) (h1 : ∀ t, t < d → decide (p < offT S (t + 1)) = false) (h2 : ∀ t, d ≤ t → t < S.length → decide (p < offT S (t + 1)) = true) : d < S.length ∧ offT S d ≤ p ∧ docI S (p : Int) = ((d : Int), (p : Int) - ((offT S d : Nat) : Int)) := by
  obtain ⟨d', o, x, hx, ho, rfl⟩ := locT_some hp
  have hd' := (List.getElem?_eq_some_iff.1 hx).1
  have hs := offT_succ hx
  have e : d = d' := by
    rcases Nat.lt_trichotomy d d' with h | h | h
    · have h3 := of_decide_eq_true (h2 d (Nat.le_refl _) (by omega))
      have h4 := offT_mono (S := S) (e := d') (d := d + 1) h (by omega)
      omega
    · exact h
    · have h3 := of_decide_eq_false (h1 d' h)
      omega
  subst e
  refine ⟨hd', by omega, ?_⟩
  rw [docI_at hx ho]
  congr 1
  omega

set_option maxRecDepth 100000 in
set_option maxHeartbeats 1600000 in
theorem tdoc_any (h : Txt B w g X cx y cy T S) (p : Int) (hp : (Lit.int .i64 p).wf = true) :
    Calls Try.prog 25 #[.pointer (some ⟨g, 0, none⟩), .int .i64 p] w fun e w' => e = .returned (.tuple #[.int .i64 (docI S p).1, .int .i64 (docI S p).2]) ∧ Below w.heap.size w w' := by
  obtain ⟨W, hW⟩ : ∃ W, (w.alloc (.cells #[.pointer (some ⟨g, 0, none⟩)] 26)).alloc (.cells #[.int .i64 p] 3) = W := ⟨_, rfl⟩
  have hbW : Below w.heap.size w W := by rw [← hW]; exact ((Below.refl _ _).alloc (Nat.le_refl _) _).alloc (by rw [size_alloc]; omega) _
  have l1 := lies_new w 26 [.pointer (some ⟨g, 0, none⟩)]
  have l2 := lies_new (w.alloc (.cells #[.pointer (some ⟨g, 0, none⟩)] 26)) 3 [.int .i64 p]
  have c1 : ∀ q, (W.drewN q).cell? ⟨w.heap.size, 0, none⟩ = some (.pointer (some ⟨g, 0, none⟩)) := fun q => by rw [← hW]; exact (l1.alloc _).cell 0
  have c2 : ∀ q, (W.drewN q).cell? ⟨w.heap.size + 1, 0, none⟩ = some (.int .i64 p) := fun q => by rw [← hW]; rw [size_alloc] at l2; exact l2.cell 0
  have hT : ∀ q, Txt B (W.drewN q) g X cx y cy T S := fun q => h.keep (below_drewN' hbW q)
  have HL : ∀ q, Hid (Calls Try.prog 24 #[.pointer (some ⟨g, 0, none⟩)] (W.drewN q) fun e w' => e = .returned (.int .i64 ((lenT S : Nat) : Int)) ∧ ∃ q', w' = (W.drewN q).drewN q') := fun q => Lib.hid (tlen_any (hT q))
  have HD : ∀ q, Hid (Calls Try.prog 29 #[.pointer (some ⟨g, 0, none⟩)] (W.drewN q) fun e w' => e = .returned (.int .i64 ((S.length : Nat) : Int)) ∧ W.drewN q = w') := fun q => Lib.hid (tdocs_any (hT q))
  have hpb := i64_in hp
  have hcy := owns_room h.starts
  have hr := h.right.1
  have hcm : cy ≤ 9223372036854775807 := by have := hcy.2; unfold maxLen at this; omega
  have hcl := hcy.1
  have hoff : lenT S ≤ 65792 := h.off_le (Nat.le_refl _)
  by_cases hin : 0 ≤ p ∧ p < ((lenT S : Nat) : Int)
  · obtain ⟨m, rfl⟩ : ∃ m : Nat, p = (m : Int) := ⟨p.toNat, by omega⟩
    have hm : m < lenT S := by omega
    have HS : ∀ q, Hid (Calls Try.prog 30 #[.int .i64 ((S.length : Nat) : Int), .func (.func 31) #[] #[.pointer (some ⟨w.heap.size, 0, none⟩), .pointer (some ⟨w.heap.size + 1, 0, none⟩)]] (W.drewN q) fun e w' => ∃ j : Nat, j ≤ S.length ∧ e = .returned (.int .i64 (j : Int)) ∧ ((∀ t, t < j → decide (m < offT S (t + 1)) = false) ∧ (∀ t, j ≤ t → t < S.length → decide (m < offT S (t + 1)) = true)) ∧ ∃ q', w' = (W.drewN q).drewN q') := fun q => Lib.hid (search2_any 31 (enters_of Try.func31 (by kernel_rfl) rfl) (fun i => decide (m < offT S (i + 1))) S.length _ _ (W.drewN q) (by omega) (fun i j hij hi => by
        by_cases hj : j < S.length
        · have h1 := of_decide_eq_true hi
          have h2 := offT_mono (S := S) (e := j + 1) (d := i + 1) (by omega) (by omega)
          exact decide_eq_true (by omega)
        · have h1 := of_decide_eq_true hi
          have h2 : offT S (i + 1) ≤ offT S (j + 1) := by
            unfold offT
            rw [List.take_of_length_le (l := S) (i := j + 1) (by omega), ← List.take_append_drop (i + 1) S, List.map_append, List.sum_append, List.take_append_drop]
            omega
          exact decide_eq_true (by omega)) (fun q' i hi => tdoc1_any (h.keep (below_drewN' (below_drewN' hbW q) q')) _ _ i m hi (c1 (q + q')) (c2 (q + q'))))
    have HDI : Hid (∀ d, d ≤ S.length → (∀ t, t < d → decide (m < offT S (t + 1)) = false) → (∀ t, d ≤ t → t < S.length → decide (m < offT S (t + 1)) = true) → d < S.length ∧ offT S d ≤ m ∧ docI S (m : Int) = ((d : Int), (m : Int) - ((offT S d : Nat) : Int))) := Lib.hid fun d hd h1 h2 => docI_in hm hd h1 h2
    have h1 : ∀ q, (W.drewN q).cell? ⟨g, 1, none⟩ = some (.slice (some ⟨y, 0, none⟩) (S.length + 1) cy) := fun q => (hT q).c1
    have h2 : Hid (∀ q d, d ≤ S.length → (W.drewN q).cell? ⟨y, d, none⟩ = some (.int .i64 ((offT S d : Nat) : Int))) := Lib.hid fun q d hd => (hT q).start hd
    obtain ⟨N, hN⟩ : ∃ N, lenT S = N := ⟨_, rfl⟩
    obtain ⟨k, hk⟩ : ∃ k, S.length = k := ⟨_, rfl⟩
    rw [hN] at HL hm hoff
    rw [hk] at HD HS HDI h1 h2 hcl hr
    have hd1 : decide ((m : Int) < 0) = false := decide_eq_false (by omega)
    have hd2 : decide ((N : Int) ≤ (m : Int)) = false := decide_eq_false (by omega)
    have HD0 := HD 0
    have HB := Lib.hid hbW
    have HW := Lib.hid hW
    clear h hT hW hbW l1 l2 hcy hN hk hp hin
    go_enter Try.func25, Try.ntmps25
    go_wp2_with fail
    rw [HW.out]
    go_quiet ((go_at_call 24; with_reducible exact tquiet2 (HL _).out))
    go_wp2_with (first
      | (go_at_call 29; (with_reducible refine (HD _).out.mono ?_); rintro e w' ⟨rfl, rfl⟩)
      | (go_at_call 30; (with_reducible refine (HS _).out.mono ?_); rintro e w2 ⟨d, hdk, rfl, ⟨hlo, hhi⟩, nq2, rfl⟩; obtain ⟨hd3, hom, hdi⟩ := HDI.out d hdk hlo hhi; have hst := fun q => h2.out q d hdk; have HDd := Lib.hid hdi))
    clear hlo hhi hdi
    have hsub : IntKind.i64.wrap ((m : Int) - ((offT S d : Nat) : Int)) = (m : Int) - ((offT S d : Nat) : Int) := IntWalk.i64_in _ (by omega)
    generalize offT S d = od at hst hom HDd hsub
    go_quiet (fail)
    go_wp2_with fail
    go_ret2
    rw [HDd.out]
    exact ⟨rfl, below_drewN' (below_drewN' HB.out _) _⟩
  · rw [docI_out (by omega)]
    obtain ⟨N, hN⟩ : ∃ N, lenT S = N := ⟨_, rfl⟩
    rw [hN] at HL hin
    have HB := Lib.hid hbW
    have HW := Lib.hid hW
    have hcond : decide (p < 0) = true ∨ (decide (p < 0) = false ∧ decide ((N : Int) ≤ p) = true) := by
      by_cases h0 : p < 0
      · exact .inl (decide_eq_true h0)
      · exact .inr ⟨decide_eq_false h0, decide_eq_true (by omega)⟩
    clear h hT hW hbW l1 l2 hcy hN hp hin HD
    rcases hcond with hd1 | ⟨hd1, hd2⟩
    all_goals
      go_enter Try.func25, Try.ntmps25
      go_wp2_with fail
      rw [HW.out]
      go_quiet ((go_at_call 24; with_reducible exact tquiet2 (HL _).out))
      go_wp2_with fail
      go_ret2
      exact ⟨rfl, below_drewN' HB.out _⟩
theorem tdoc_nil (p : Int) (w : World) : Calls Try.prog 25 #[.pointer none, .int .i64 p] w fun e w' => e = .returned (.tuple #[.int .i64 (-1), .int .i64 (-1)]) ∧ Below w.heap.size w w' := by
  obtain ⟨W, hW⟩ : ∃ W, (w.alloc (.cells #[.pointer none] 26)).alloc (.cells #[.int .i64 p] 3) = W := ⟨_, rfl⟩
  have hbW : Below w.heap.size w W := by rw [← hW]; exact ((Below.refl _ _).alloc (Nat.le_refl _) _).alloc (by rw [size_alloc]; omega) _
  have l1 := lies_new w 26 [.pointer none]
  have l2 := lies_new (w.alloc (.cells #[.pointer none] 26)) 3 [.int .i64 p]
  have c1 : ∀ q, (W.drewN q).cell? ⟨w.heap.size, 0, none⟩ = some (.pointer none) := fun q => by rw [← hW]; exact (l1.alloc _).cell 0
  have c2 : ∀ q, (W.drewN q).cell? ⟨w.heap.size + 1, 0, none⟩ = some (.int .i64 p) := fun q => by rw [← hW]; rw [size_alloc] at l2; exact l2.cell 0
  have HL : ∀ q, Hid (Calls Try.prog 24 #[.pointer none] (W.drewN q) fun e w' => e = .returned (.int .i64 0) ∧ W.drewN q = w') := fun q => Lib.hid (tlen_nil _)
  have HB := Lib.hid hbW
  have HW := Lib.hid hW
  have hcond : decide (p < 0) = true ∨ (decide (p < 0) = false ∧ decide (0 ≤ p) = true) := by
    by_cases h0 : p < 0
    · exact .inl (decide_eq_true h0)
    · exact .inr ⟨decide_eq_false h0, decide_eq_true (by omega)⟩
  clear hW hbW l1 l2
  rcases hcond with hd1 | ⟨hd1, hd2⟩
  all_goals
    go_enter Try.func25, Try.ntmps25
    go_wp2_with fail
    rw [HW.out]
    go_quiet ((go_at_call 24; with_reducible exact tquiet (HL _).out))
    go_wp2_with fail
    go_ret2
    exact ⟨rfl, below_drewN' HB.out _⟩
end
end Go.Proofs.Ytpdleigcdmgfmaa
