/- The walk of colophonlaw06.ImageOpens, over what package image answers (ImgI). -/
import Derived.Test.YtbepoohphmicdaaDoorImgFirst
import Derived.Test.YtbepoohphmicdaaDoorTurned
import Derived.Test.YtbepoohphmicdaaDoorCrcRef
import Derived.Test.YtbepoohphmicdaaDoorHeld
import Derived.Laws.CopyOwn
namespace Go.Proofs.YtbepoohphmicdaaDoor
open Go.RowKit

/-- bytes of which m from place o on are others. -/
def overTo (U : Nat → Nat) (o m : Nat) (V : Nat → Nat) : Nat → Nat := fun k => if o ≤ k ∧ k < o + m then V (k - o) else U k
theorem overTo_lt {U V : Nat → Nat} {n o m : Nat} (hU : ∀ k, k < n → U k < 256) (hV : ∀ k, k < m → V k < 256) : ∀ k, k < n → overTo U o m V k < 256 := fun k hk => by
  unfold overTo
  split
  · exact hV _ (by omega)
  · exact hU k hk
theorem overTo_cells (U V : Nat → Nat) (n o m : Nat) (h : o + m ≤ n) : (ycells U n).take o ++ (ycells V m ++ (ycells U n).drop (o + m)) = ycells (overTo U o m V) n := by
  apply List.ext_getElem?
  intro k
  by_cases hk : k < n
  · rw [ycells_at _ _ _ hk]
    unfold overTo
    by_cases h1 : k < o
    · rw [List.getElem?_append_left (by rw [List.length_take, ycells_length]; omega), List.getElem?_take, if_pos h1, ycells_at _ _ _ hk, if_neg (by omega)]
    · have hl : (List.take o (ycells U n)).length = o := by rw [List.length_take, ycells_length]; omega
      rw [List.getElem?_append_right (by omega), hl]
      by_cases h2 : k < o + m
      · rw [List.getElem?_append_left (by rw [ycells_length]; omega), ycells_at _ _ _ (by omega), if_pos ⟨by omega, h2⟩]
      · rw [List.getElem?_append_right (by rw [ycells_length]; omega), ycells_length, List.getElem?_drop, show o + m + (k - o - m) = k by omega, ycells_at _ _ _ hk, if_neg (by omega)]
  · rw [List.getElem?_eq_none (by simp [ycells_length]; omega), List.getElem?_eq_none (by rw [ycells_length]; omega)]
theorem size_u8b : (Tryd.prog.info? 5).map (·.size) = some 1 := by kernel_rfl
theorem three_at {α : Type} (a b c : List α) (o m : Nat) (ha : a.length = o) (hb : b.length = m) (k : Nat) : (a ++ (b ++ c))[k]? = if k < o then a[k]? else if k < o + m then b[k - o]? else c[k - (o + m)]? := by
  split
  · rw [List.getElem?_append_left (by omega)]
  · rw [List.getElem?_append_right (by omega), ha]
    split
    · rw [List.getElem?_append_left (by omega)]
    · rw [List.getElem?_append_right (by omega), hb, show k - o - m = k - (o + m) by omega]
/-- a copy of bytes into a row of the call's own. -/
theorem row_copy {w : World} {B g n cap o m dc c : Nat} {U V : Nat → Nat} {ad : Addr} (h : w.ownsRow B 5 1 (.slice (some ⟨g, 0, none⟩) n cap) n (ycells U n)) (ho : o + m ≤ n) (hs : ∀ k, k < m → w.cell? (ad.add k) = some (.int .u8 ((V k : Nat) : Int))) :
    ∃ w2, (Builtin.copy_ #[25, 25] 3 #[.slice (some ⟨g, o, none⟩) m dc, .slice (some ad) m c]).run Tryd.prog w = .ok (.int .i64 (m : Int)) w2 ∧ w2.ownsRow B 5 1 (.slice (some ⟨g, 0, none⟩) n cap) n (ycells (overTo U o m V) n) ∧ Below B w w2 := by
  rcases h.2 with ⟨e0, _⟩ | ⟨g', cap', cur, e0, hb, hg, hn, hm, hsz, ht⟩
  · cases e0
  · injection e0 with e1 _ e3
    injection e1 with e1
    injection e1 with e1
    subst e1; subst e3
    have hcs : cur.size = cap := by omega
    have hrun := run_copy_row (P := Tryd.prog) w 25 25 3 5 g o m dc ad m c cur 5 (ycells V m) Tryd.underlying25 size_u8b hg (by rw [ycells_length]; exact (Nat.min_self m).symm) (fun j v hj => by
      have hjm : j < m := by
        have := (List.getElem?_eq_some_iff.1 hj).1
        rw [ycells_length] at this
        exact this
      rw [ycells_at V m j hjm] at hj
      rw [← hj]
      exact hs j hjm) (by rw [ycells_length]; omega) (ycells_one V m)
    rw [ycells_length] at hrun
    refine ⟨_, hrun, ⟨by simp [ycells_length], .inr ⟨g, cap, _, rfl, hb, setRow_heap w g cur _ 5 (0, 0) hg, hn, hm, ?_, ?_⟩⟩, below_setRow (Below.refl _ _) hb _⟩
    · simp [ycells_length]
      omega
    · have hU : cur.toList.take n = ycells U n := by simpa using ht
      rw [Nat.mul_one, ← overTo_cells U V n o m ho, ← hU]
      show List.take n (List.take o cur.toList ++ ycells V m ++ List.drop (o + m) cur.toList) = _
      have hlc : cur.toList.length = cap := by simpa using hcs
      apply List.ext_getElem?
      intro k
      by_cases hk : k < n
      · rw [List.getElem?_take, if_pos hk, List.append_assoc, three_at _ _ _ o m (by rw [List.length_take]; omega) (ycells_length V m), three_at _ _ _ o m (by rw [List.length_take, List.length_take]; omega) (ycells_length V m)]
        by_cases h1 : k < o
        · rw [if_pos h1, if_pos h1, List.getElem?_take, if_pos h1, List.getElem?_take, if_pos h1, List.getElem?_take, if_pos hk]
        · rw [if_neg h1, if_neg h1]
          by_cases h2 : k < o + m
          · rw [if_pos h2, if_pos h2]
          · rw [if_neg h2, if_neg h2, List.getElem?_drop, List.getElem?_drop, List.getElem?_take, if_pos (by omega)]
      · rw [List.getElem?_take, if_neg hk, List.getElem?_eq_none]
        simp [ycells_length]
        omega

/-- bytes of which the first i are turned about. -/
def flip2 (U : Nat → Nat) (i : Nat) : Nat → Nat := fun j => if j < i then U j ^^^ 255 else U j
theorem flip2_here (U : Nat → Nat) (i : Nat) : flip2 U i i = U i := by unfold flip2; rw [if_neg (by omega)]
theorem flip2_next (U : Nat → Nat) (i : Nat) : flip2 U (i + 1) = fun j => if i = j then U i ^^^ 255 else flip2 U i j := by
  funext j
  unfold flip2
  by_cases h : i = j
  · subst h; rw [if_pos (by omega), if_pos rfl]
  · rw [if_neg h]
    by_cases h2 : j < i
    · rw [if_pos h2, if_pos (by omega)]
    · rw [if_neg h2, if_neg (by omega)]

section
variable {T : World → Prop} {At : Nat → World → Value → List Sec → Prop}
set_option linter.unusedSimpArgs false in
set_option maxRecDepth 100000 in
set_option maxHeartbeats 3200000 in
theorem imgOpens_few (I : ImgI T At) (A : Option Addr) (n c : Nat) (V : Nat → Nat) (sl : Bool) (w : World) (hA : A = none → n = 0 ∧ c = 0) (ho : Bys w w.heap.size A n V) (hn : n ≤ 100000) (hT : T w) :
    Calls Tryd.prog 4 #[.slice A n c, .bool sl] w fun e w' => e = .returned (.bool true) ∧ Below w.heap.size w w' := by
  have HI := Lib.hid I
  have HT := Lib.hid hT
  have HO := Lib.hid ho
  have HV := Lib.hid (show ∀ k, k < n → V k < 256 from fun k hk => (ho k hk).elim fun _ h => h.2.2.2)
  have HF := Lib.hid (ifirst_any I w hT)
  have HA := Lib.hid hA
  have hd : decide ((100000 : Int) < (n : Int)) = false := by simp; omega
  clear ho hT I hA
  go_enter Tryd.func4, Tryd.ntmps4
  go_wp2_with fail
  refine HF.out.mono ?_
  rintro e w0 ⟨rfl, hb0⟩
  have HW := Lib.hid (World.ownsRow_made (base := w0.heap.size) (e := 5) (size := 1) w0 #[] 0 (Nat.le_refl _) (by unfold maxLen; omega) rfl)
  have hBa : Below w0.heap.size w0 (w0.alloc (.cells #[] 5)) := (Below.refl _ _).alloc (Nat.le_refl _) _
  have hsa := hBa.size
  have HO1 := Lib.hid ((HO.out.below hb0).mono_ hb0.size)
  clear HF
  go_wp2_with (at_builtin; refine step_append_bytes rfl (.tmp 18) (.tmp 19) rfl rfl HW.out rfl HA.out (HO1.out.below hBa) hsa (by omega) ?_; intro v5 w5 hown5 hb5)
  have hB5 := hBa.trans hb5
  have h5 := hown5.out
  rw [List.nil_append, Nat.zero_add] at h5
  obtain ⟨X, cx, rfl, hXA, hXc, hXo⟩ := row_bys h5 HV.out
  have hcxm : cx ≤ maxLen := by
    rcases h5.2 with ⟨e, _⟩ | ⟨_, _, _, e, _, _, _, h, _⟩
    · cases e
      exact Nat.zero_le _
    · cases e
      exact h
  have HR5 := Lib.hid h5
  have HXA := Lib.hid hXA
  have HCM := Lib.hid hcxm
  clear hown5 hb5 h5 hXo HW hBa hsa HO1 hXA hcxm
  go_loopw [6] (fun v wr => ∃ (i : Nat) (U : Nat → Nat), v = .int .i64 (i : Int) ∧ i ≤ n ∧ Hid (∀ k, k < n → U k < 256) ∧ Hid (wr.ownsRow w0.heap.size 5 1 (.slice X n cx) n (ycells U n)) ∧ Below w0.heap.size w0 wr) (fun v _ => n + 264 - (intOf v).toNat)
  case atStart => exact ⟨0, V, rfl, Nat.zero_le _, HV, HR5, hB5⟩
  case round =>
    clear hB5 HR5
    obtain ⟨i, U, rfl, hi, hU, hrow, hb⟩ := hrel
    obtain ⟨m2, hm2⟩ : ∃ m2, i + 264 = m2 := ⟨_, rfl⟩
    have e1 : IntKind.i64.wrap ((i : Int) + 264) = (m2 : Int) := by rw [IntWalk.i64_in _ (by omega)]; omega
    by_cases hgo : sl = true ∧ m2 ≤ n
    · obtain ⟨rfl, hmn⟩ := hgo
      have d1 : decide ((m2 : Int) ≤ (n : Int)) = true := by simp; omega
      obtain ⟨g, hXg⟩ : ∃ g, X = some ⟨g, 0, none⟩ := by
        obtain ⟨g, cap, hf⟩ := Joins.ownsRow_form hrow.out (by omega)
        cases hf
        exact ⟨g, rfl⟩
      subst hXg
      obtain ⟨m1, hm1⟩ : ∃ m1, i + 260 = m1 := ⟨_, rfl⟩
      have e2 : IntKind.i64.wrap ((i : Int) + 260) = (m1 : Int) := by rw [IntWalk.i64_in _ (by omega)]; omega
      have e3 : (i : Int) ≤ (m2 : Int) := by omega
      have e4 : (i : Int) ≤ (m1 : Int) := by omega
      have e5 : (m2 : Int) ≤ (cx : Int) := by omega
      have e6 : (m1 : Int) ≤ (cx : Int) := by omega
      have e7 : m2 - i = 264 := by omega
      have e8 : m1 - i = 260 := by omega
      have e9 : cx ≠ i := by omega
      have hbd := below_drew' hb
      have HPut := Lib.hid (refPut_any (some ⟨g, i, none⟩) 260 (cx - i) (fun k => U (i + k)) wr.drew (by decide) (fun h => (by cases h)) (by
        obtain ⟨Y, cy, hY, _, _, hYo⟩ := row_bys hrow.out hU.out
        cases hY
        rw [← addr_add]
        exact Bys.cut_ (hYo.below (below_drew' (Below.refl _ _))) (by omega)))
      clear hm1
      go_upto_region 9 with (fail)
      refine wp_region_noPanic ?_
      refine wp_region_held_drew (S := fun w' => Below w0.heap.size w0 w') (by kernel_rfl) hbd (fun hHeld => ?_)
      refine take_at (i := 0) (d := 31) (v := ?_) rfl rfl (by kernel_rfl) (by kernel_rfl) (by kernel_rfl) (fun _ _ _ h => h) (Or.inl ⟨by rfl, ?_⟩) (by assumption) ?_
      rotate_left
      · intro wS hSw
        go_simp
        all_goals with_reducible rfl
      try simp only [Act.put, List.setIfInBounds_toArray, List.set_cons_zero, List.set_cons_succ]
      refine take_at (i := 1) (d := 32) (v := ?_) rfl rfl (by kernel_rfl) (by kernel_rfl) (by kernel_rfl) (fun _ _ _ h => h) (Or.inl ⟨by rfl, ?_⟩) (by assumption) ?_
      rotate_left
      · intro wS hSw
        go_simp
        all_goals with_reducible rfl
      try simp only [Act.put, List.setIfInBounds_toArray, List.set_cons_zero, List.set_cons_succ]
      refine take_at (i := 2) (d := 33) (v := ?_) rfl rfl (by kernel_rfl) (by kernel_rfl) (by kernel_rfl) (fun _ _ _ h => h) (Or.inl ⟨by rfl, ?_⟩) (by assumption) ?_
      rotate_left
      · intro wS hSw
        go_simp
        all_goals with_reducible rfl
      try simp only [Act.put, List.setIfInBounds_toArray, List.set_cons_zero, List.set_cons_succ]
      refine take_at (i := 3) (d := 34) (v := ?_) rfl rfl (by kernel_rfl) (by kernel_rfl) (by kernel_rfl) (fun _ _ _ h => h) (Or.inl ⟨by rfl, ?_⟩) (by assumption) ?_
      rotate_left
      · intro wS hSw
        go_simp
        all_goals with_reducible rfl
      try simp only [Act.put, List.setIfInBounds_toArray, List.set_cons_zero, List.set_cons_succ]
      refine take_at (i := 4) (d := 35) (v := ?_) rfl rfl (by kernel_rfl) (by kernel_rfl) (by kernel_rfl) (fun _ _ _ h => h) (Or.inl ⟨by rfl, ?_⟩) (by assumption) ?_
      rotate_left
      · intro wS hSw
        go_simp
        all_goals with_reducible rfl
      try simp only [Act.put, List.setIfInBounds_toArray, List.set_cons_zero, List.set_cons_succ]
      refine take_at (i := 5) (d := 36) (v := ?_) rfl rfl (by kernel_rfl) (by kernel_rfl) (by kernel_rfl) (fun _ _ _ h => h) (Or.inl ⟨by rfl, ?_⟩) (by assumption) ?_
      rotate_left
      · intro wS hSw
        go_simp
        all_goals with_reducible rfl
      try simp only [Act.put, List.setIfInBounds_toArray, List.set_cons_zero, List.set_cons_succ]
      refine take_at (i := 6) (d := 37) (v := ?_) rfl rfl (by kernel_rfl) (by kernel_rfl) (by kernel_rfl) (fun _ _ _ h => h) (Or.inl ⟨by rfl, ?_⟩) (by assumption) ?_
      rotate_left
      · intro wS hSw
        go_simp
        all_goals with_reducible rfl
      try simp only [Act.put, List.setIfInBounds_toArray, List.set_cons_zero, List.set_cons_succ]
      refine take_at (i := 7) (d := 38) (v := ?_) rfl rfl (by kernel_rfl) (by kernel_rfl) (by kernel_rfl) (fun _ _ _ h => h) (Or.inl ⟨by rfl, ?_⟩) (by assumption) ?_
      rotate_left
      · intro wS hSw
        go_simp
        all_goals with_reducible rfl
      try simp only [Act.put, List.setIfInBounds_toArray, List.set_cons_zero, List.set_cons_succ]
      refine take_at (i := 8) (d := 39) (v := ?_) rfl rfl (by kernel_rfl) (by kernel_rfl) (by kernel_rfl) (fun _ _ _ h => h) (Or.inl ⟨by rfl, ?_⟩) (by assumption) ?_
      rotate_left
      · intro wS hSw
        go_simp
        all_goals with_reducible rfl
      try simp only [Act.put, List.setIfInBounds_toArray, List.set_cons_zero, List.set_cons_succ]
      refine take_at (i := 9) (d := 40) (v := ?_) rfl rfl (by kernel_rfl) (by kernel_rfl) (by kernel_rfl) (fun _ _ _ h => h) (Or.inl ⟨by rfl, ?_⟩) (by assumption) ?_
      rotate_left
      · intro wS hSw
        go_simp
        all_goals with_reducible rfl
      try simp only [Act.put, List.setIfInBounds_toArray, List.set_cons_zero, List.set_cons_succ]
      refine wpAnyH_ready (rs := [10]) (by kernel_rfl) (by simp) ?_
      refine AllReadyH.cons rfl (fun K hK => ?_) AllReadyH.nil
      go_simp
      refine HPut.out.mono ?_
      rintro e x1 ⟨pv, rfl, hp, hc1⟩
      have hC1 := hbd.trans (hc1.mono hbd.size)
      obtain ⟨gy, cy, rfl⟩ := Joins.ownsRow_form hp (by decide)
      have hrow1 := ownsRow_keep hrow.out.drew hc1
      obtain ⟨x2, hcp, hrow2, hbc⟩ := row_copy (dc := cx - i) (c := cy) (ad := ⟨gy, 0, none⟩) hrow1 (show i + 264 ≤ n by omega) (fun k hk => hp.cells rfl k _ (ycells_at _ _ k hk))
      have hC2 := hC1.trans hbc
      have HR2 := Lib.hid hrow2
      clear hrow2 hrow1 hp hbc hc1
      refine hK.out _ _ ?_ (fun hHeld => ?_)
      · exact hC1
      clear hK K
      try simp only [Act.put, List.setIfInBounds_toArray, List.set_cons_zero, List.set_cons_succ]
      refine wpAnyH_ready (rs := [11]) (by kernel_rfl) (by simp) ?_
      refine AllReadyH.cons rfl (fun K hK => ?_) AllReadyH.nil
      go_simp
      refine hK.out _ _ ?_ (fun hHeld => ?_)
      · exact hC2
      clear hK K
      try simp only [Act.put, List.setIfInBounds_toArray, List.set_cons_zero, List.set_cons_succ]
      refine wpAnyH_done (by kernel_rfl) ?_ _
      refine NoPanic.normal ?_
      go_wp2_with fail
      go_roundw
      case rel => exact ⟨m2, overTo U i 264 _, rfl, hmn, Lib.hid (overTo_lt hU.out (fun k _ => behind_lt (fun j hj => hU.out (i + j) (by omega)) k)), HR2, hC2⟩
      case measure => simp [intOf]; omega
    · obtain ⟨wq, hwq⟩ : ∃ wq, wq = wr := ⟨_, rfl⟩
      subst hwq
      have hUl := (row_bys hrow.out hU.out)
      obtain ⟨Y, cy, hY, hYA, hYc, hYo⟩ := hUl
      cases hY
      have HYo := Lib.hid hYo
      have HW := Lib.hid (World.ownsRow_made (base := wq.heap.size) (e := 5) (size := 1) wq #[] 0 (Nat.le_refl _) (by unfold maxLen; omega) rfl)
      have hBa : Below wq.heap.size wq (wq.alloc (.cells #[] 5)) := (Below.refl _ _).alloc (Nat.le_refl _) _
      have hsa := hBa.size
      have hex : (sl = false) ∨ (sl = true ∧ ¬ (m2 : Int) ≤ (n : Int)) := by
        cases sl
        · exact .inl rfl
        · right
          refine ⟨rfl, ?_⟩
          simp at hgo ⊢
          omega
      have HRef := Lib.hid (fun W (hW : Below wq.heap.size wq W) => Lib.hid (refOpen_any X n cx U W (by omega) HXA.out hXc HCM.out ((HYo.out.below hW).mono_ hW.size)))
      have hB0r := hb0.trans (hb.mono hb0.size)
      clear hm2 hgo hYA hYc hYo hrow
      rcases hex with rfl | ⟨rfl, hex⟩
      all_goals
        go_wp2_with (at_builtin; refine step_append_bytes rfl (.tmp 43) (.tmp 44) rfl rfl HW.out rfl HXA.out (HYo.out.below hBa) hsa (by omega) ?_; intro v6 w6 hown6 hb6)
        have hB6 := hBa.trans hb6
        have h6 := hown6.out
        rw [List.nil_append, Nat.zero_add] at h6
        obtain ⟨Z, cz, rfl, hZA, hZc, hZo⟩ := row_bys h6 hU.out
        have hczm : cz ≤ maxLen := by
          rcases h6.2 with ⟨e, _⟩ | ⟨_, _, _, e, _, _, _, h, _⟩
          · cases e
            exact Nat.zero_le _
          · cases e
            exact h
        have H6 := Lib.hid h6
        have HOp := Lib.hid (HI.out.open_ Z n cz U w6 (HI.out.tk HT.out (hB0r.trans (hB6.mono hB0r.size))) (by omega) hZA hZc hczm hZo)
        have HZo := Lib.hid hZo
        clear h6 hown6 hb6 HW hBa hsa hZA hZo hczm
        refine HOp.out.mono ?_
        rintro e w7 ⟨hyes, hno, hb7⟩
        have hB7 := hB6.trans (hb7.mono hB6.size)
        have H7 := Lib.hid (ownsRow_keep H6.out hb7)
        have hs67 := hb7.size
        have hres : ∃ mv k, e = .returned (.tuple #[mv, .int .i64 k]) ∧ ((¬ ∃ L, IsImage n U L) → mv = .pointer none ∧ k = 10) ∧ ((∃ L, IsImage n U L) → k = 0 ∧ ∃ L, IsImage n U L ∧ At w6.heap.size w7 mv L) := by
          by_cases hi : ∃ L, IsImage n U L
          · obtain ⟨v, L, h1, h2, h3⟩ := hyes hi
            exact ⟨v, 0, h2, fun h => absurd hi h, fun _ => ⟨rfl, L, h1, h3⟩⟩
          · exact ⟨_, 10, hno hi, fun _ => ⟨rfl, rfl⟩, fun h => absurd h hi⟩
        obtain ⟨mv, k, rfl, hr1, hr2⟩ := hres
        have HR1 := Lib.hid hr1
        have HR2 := Lib.hid hr2
        clear hyes hno hr1 hr2 HOp H6 hb7 hB6 hZc
        go_wp2_with fail
        go_loopw [10, 53] (fun _ q wx => ∃ j : Nat, j ≤ n ∧ q = .int .i64 (j : Int) ∧ Hid (wx.ownsRow wq.heap.size 5 1 (.slice Z n cz) n (ycells (flip2 U j) n)) ∧ Hid ((∃ L, IsImage n U L) → ∃ L, IsImage n U L ∧ At w6.heap.size wx mv L) ∧ Below wq.heap.size wq wx) (fun _ q _ => n - (intOf q).toNat)
        case atStart => exact ⟨0, Nat.zero_le _, rfl, H7, Lib.hid (fun h => (HR2.out h).2), hB7⟩
        case round =>
          obtain ⟨j, hj, rfl, hrow, hat, hbx⟩ := hrel
          by_cases hlt : j < n
          · obtain ⟨g, cap, hform⟩ := Joins.ownsRow_form hrow.out (by omega)
            cases hform
            have hgw : wq.heap.size ≤ g := (hrow.out.lt g rfl).1
            have hg6 : g < w6.heap.size := by
              obtain ⟨_, e1, hlt6, _, _⟩ := HZo.out j hlt
              cases e1
              exact hlt6
            have hcell := row_cell hrow.out hlt
            have hfz := hrow.out.frozenAt j
            rw [flip2_here] at hcell
            have hUi := hU.out j hlt
            have HXR := Lib.hid (show bits .xor .u8 ((U j : Nat) : Int) 255 = ((U j ^^^ 255 : Nat) : Int) from u8_xor_nat (U j) 255 hUi (by decide))
            have hiN : (j : Int) < (n : Int) := by omega
            have HNx := Lib.hid (flip2_next U j)
            go_wp2_with fail
            go_roundw
            case rel =>
              rw [HXR.out]
              refine ⟨j + 1, by omega, by go_num, Lib.hid ?_, Lib.hid (fun h => ?_), hbx.setCell hgw _⟩
              · rw [HNx.out]
                exact row_store hrow.out
              · obtain ⟨L, h1, h2⟩ := hat.out h
                exact ⟨L, h1, HI.out.far h2 hg6 _⟩
            case measure => simp [intOf]; omega
          · obtain rfl : n = j := by omega
            have HRf := HRef.out wr hbx
            have hBr := hB0r.trans (hbx.mono hB0r.size)
            clear HRef
            go_wp2_with fail
            refine HRf.out.mono ?_
            rintro e w9 ⟨v9, ok, rfl, hf9, ht9, hb9⟩
            have hB9 := hBr.trans (hb9.mono hBr.size)
            have HAt9 := Lib.hid (fun h => (hat.out h).elim fun L h2 => ⟨L, h2.1, HI.out.keep h2.2 hb9⟩ : (∃ L, IsImage n U L) → ∃ L, IsImage n U L ∧ At w6.heap.size w9 mv L)
            clear HRf hbx hb9 hBr
            cases ok
            · have hno := hf9 rfl
              obtain ⟨rfl, rfl⟩ := HR1.out hno
              clear hf9 ht9 hno
              go_wp2_with fail
              go_ret
              exact ⟨rfl, hB9⟩
            · obtain ⟨P9, c9, L9, rfl, hl60, hs9, hi9⟩ := ht9 rfl
              obtain ⟨rfl, _⟩ := HR2.out ⟨_, hi9⟩
              obtain ⟨S, hiS, hAS⟩ := HAt9.out ⟨_, hi9⟩
              obtain ⟨pa, rfl⟩ := HI.out.ptr hAS
              have HSm := Lib.hid (hiS.same hi9)
              have HS9 := Lib.hid hs9
              have HRd := Lib.hid (read_any HI.out _ _ S w9 (HI.out.tk HT.out hB9) hAS)
              clear hf9 ht9 hs9 hi9 hiS hAS
              go_wp2_with fail
              refine HRd.out.mono ?_
              rintro e w10 ⟨Pr, cr, Lr, rfl, hr60, hsr, hsm, hb10⟩
              have hB10 := hB9.trans (hb10.mono hB9.size)
              have HSP := Lib.hid (same_sp (hsm.trans HSm.out))
              have HSa := Lib.hid (refSame_any Pr P9 cr c9 Lr L9 w10 (by unfold maxLen; omega) hsr ((HS9.out.below hb10).mono_ hb10.size))
              clear HRd hsr hsm hb10
              go_wp2_with fail
              refine HSa.out.mono ?_
              rintro e w11 ⟨bo, rfl, hbo, hb11⟩
              obtain rfl : bo = true := hbo.2 HSP.out
              clear hbo HSa
              go_wp2_with fail
              go_ret
              exact ⟨rfl, hB10.trans (hb11.mono hB10.size)⟩
set_option maxRecDepth 100000 in
theorem imgOpens_walk (I : ImgI T At) (A : Option Addr) (n c : Nat) (V : Nat → Nat) (sl : Bool) (w : World) (hA : A = none → n = 0 ∧ c = 0) (ho : Bys w w.heap.size A n V) (hT : T w) :
    Calls Tryd.prog 4 #[.slice A n c, .bool sl] w fun e w' => e = .returned (.bool true) ∧ Below w.heap.size w w' := by
  by_cases h1 : n ≤ 100000
  · exact imgOpens_few I A n c V sl w hA ho h1 hT
  · have HF := Lib.hid (ifirst_any I w hT)
    have hd : decide ((100000 : Int) < (n : Int)) = true := by simp; omega
    clear ho hT hA I
    go_enter Tryd.func4, Tryd.ntmps4
    go_wp2_with fail
    refine HF.out.mono ?_
    rintro e w0 ⟨rfl, hb0⟩
    go_wp2_with fail
    go_ret
    exact ⟨rfl, hb0⟩
end
end Go.Proofs.YtbepoohphmicdaaDoor
