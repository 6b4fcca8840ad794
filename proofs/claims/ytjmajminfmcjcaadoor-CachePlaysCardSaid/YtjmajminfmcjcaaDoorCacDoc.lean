/- The document's cache for layer 7, as it lies; its own functions' contracts. The document's Drop. The document's Hold. The document's Hold, where the hand goes round. The document's Stats. -/
import Derived.Test.YtjmajminfmcjcaaDoorCacPure
import Derived.Test.YtjmajminfmcjcaaDoorRange
import Derived.RegionTactic
import Derived.Deep.QuietTactic
import Derived.BigQuiet
import Derived.Deep.RegionHeld3
import Derived.Deep.MidRow
import Derived.Lib.SmallJoins
import Derived.Deep.CutBlock
import Derived.Deep.DeepCutAuto
import Derived.Outline
namespace Go.Proofs.YtjmajminfmcjcaaDoor
open Go.RowKit

/-- the document's cache as it lies: its struct in block g, its frames in block gs. -/
structure RC (w : World) (g gs cap : Nat) (sp : List Value) (c : CS) : Prop where
  head : Lies w g 40 [.int .i64 (c.n : Int), .slice (some ⟨gs, 0, none⟩) c.F.length cap, .int .i64 (c.hand : Int), .int .i64 (c.hits : Int), .int .i64 (c.misses : Int)]
  body : Lies w gs 42 (fcells c.F ++ sp)
  hand : c.hand < c.F.length
  few : c.F.length ≤ 4096 ∧ c.F.length ≤ cap ∧ cap ≤ maxLen
theorem RC.ne_ {w : World} {g gs cap : Nat} {sp : List Value} {c : CS} (h : RC w g gs cap sp c) : g ≠ gs := h.head.unlike h.body (by decide)
theorem RC.same {w w' : World} {g gs cap : Nat} {sp : List Value} {c : CS} (h : RC w g gs cap sp c) (h1 : w'.heap[g]? = w.heap[g]?) (h2 : w'.heap[gs]? = w.heap[gs]?) : RC w' g gs cap sp c := ⟨h.head.same h1, h.body.same h2, h.hand, h.few⟩
theorem RC.field {w : World} {g gs cap : Nat} {sp : List Value} {c : CS} (h : RC w g gs cap sp c) {i j : Nat} {f : Fr} (hi : c.F[i]? = some f) (hj : j < 3) : w.cell? ⟨gs, i * 3 + j, none⟩ = some (fieldF f j) := by
  have hil := (List.getElem?_eq_some_iff.1 hi).1
  rw [h.body.cell, List.getElem?_append_left (by rw [fcells_length]; omega)]
  exact fcells_at c.F i j f hi hj
/-- the number that at answers. -/
def atI (F : List Fr) (x : Int) : Int := match findF F x with
  | some i => (i : Int)
  | none => -1

set_option maxRecDepth 100000 in
set_option maxHeartbeats 800000 in
theorem refAt_any {w : World} {g gs cap : Nat} {sp : List Value} {c : CS} (h : RC w g gs cap sp c) (x : Int) :
    Calls Tryd.prog 26 #[.pointer (some ⟨g, 0, none⟩), .int .i64 x] w fun e w' => e = .returned (.int .i64 (atI c.F x)) ∧ w = w' := by
  have HR := Lib.hid h
  have h1 := h.head.cell 1
  have hf := h.few
  obtain ⟨k, hk⟩ : ∃ k, c.F.length = k := ⟨_, rfl⟩
  have HK := Lib.hid hk
  rw [hk] at h1 hf
  clear hk h
  go_enter Tryd.func26, Tryd.ntmps26
  go_wp2_with fail
  go_loop [11] (fun v => ∃ i : Nat, i ≤ k ∧ v = .int .i64 (i : Int) ∧ Hid (∀ (j : Nat) (f : Fr), j < i → c.F[j]? = some f → f.page ≠ x)) (fun v => k - (intOf v).toNat)
  case atStart => exact ⟨0, Nat.zero_le _, rfl, Lib.hid (fun j f hj => absurd hj (Nat.not_lt_zero j))⟩
  case round =>
    obtain ⟨i, hi, rfl, hall⟩ := hrel
    by_cases hlt : i < k
    · have hlti : (i : Int) < (k : Int) := by omega
      obtain ⟨f, hf⟩ : ∃ f, c.F[i]? = some f := ⟨_, List.getElem?_eq_getElem (by rw [HK.out]; exact hlt)⟩
      have c0 : w.cell? ⟨gs, i * 3, none⟩ = some (.int .i64 f.page) := HR.out.field (j := 0) hf (by decide)
      have HF := Lib.hid hf
      clear hf
      by_cases hp : f.page = x
      · have hd : (f.page == x) = true := by simpa using hp
        have HA : Hid (atI c.F x = (i : Int)) := Lib.hid (by unfold atI; rw [findF_is HF.out hp hall.out])
        clear hp
        go_wp2_with fail
        go_ret
        exact ⟨by rw [HA.out]; rfl, rfl⟩
      · have hd : (f.page == x) = false := by simpa using hp
        have HP := Lib.hid hp
        clear hp
        go_wp2_with fail
        go_round
        case rel =>
          refine ⟨i + 1, by omega, by go_num, Lib.hid (fun j f' hj h1 => ?_)⟩
          by_cases e : j < i
          · exact hall.out j f' e h1
          · obtain rfl : j = i := by omega
            rw [HF.out] at h1
            cases h1
            exact HP.out
        case measure => simp [intOf]; omega
    · obtain rfl : i = k := by omega
      have HA : Hid (atI c.F x = -1) := Lib.hid (by
        unfold atI
        rw [findF_no fun j f hj => hall.out j f (by have h1 := (List.getElem?_eq_some_iff.1 hj).1; have h2 := HK.out; omega) hj])
      go_wp2_with fail
      go_ret
      exact ⟨by rw [HA.out]; rfl, rfl⟩

theorem info_frame : (Tryd.prog.info? 42).map (fun i => (i.zero, i.size, i.bytes)) = some (some (.agg #[.int .i64 0, .int .i64 0, .bool false]), 3, 24) := by kernel_rfl
/-- so many empty frames. -/
def empties (j : Nat) : List Fr := List.replicate j ⟨-1, 0, false⟩
theorem empties_snoc (j : Nat) : fcells (empties j) ++ [.int .i64 (-1), .int .i64 0, .bool false] = fcells (empties (j + 1)) := by
  unfold empties
  rw [List.replicate_succ', fcells_append]
  rfl
theorem ownsRow_one {W : World} {base : Nat} {e : TypeId} {size : Nat} {v : Value} {k : Nat} {xs : List Value} (h : W.ownsRow base e size v (k + 1) xs) : ∃ g cap, v = .slice (some ⟨g, 0, none⟩) (k + 1) cap := by
  rcases h.2 with ⟨_, h0⟩ | ⟨g, cap, _, rfl, _⟩
  · omega
  · exact ⟨g, cap, rfl⟩
/-- a row of frames as a block. -/
theorem row_frames {w : World} {B n : Nat} {F : List Fr} {v : Value} (h : w.ownsRow B 42 3 v n (fcells F)) (hn : 0 < n) (hF : F.length = n) : ∃ gs cap sp, v = .slice (some ⟨gs, 0, none⟩) n cap ∧ B ≤ gs ∧ Lies w gs 42 (fcells F ++ sp) ∧ n ≤ cap ∧ cap ≤ maxLen := by
  rcases h.2 with ⟨_, h0⟩ | ⟨gs, cap, cur, hv, hb, hg, h1, h2, h3, h4⟩
  · omega
  · refine ⟨gs, cap, cur.toList.drop (n * 3), hv, hb, ?_, h1, h2⟩
    unfold Lies
    rw [hg, ← h4, List.take_append_drop]

set_option maxRecDepth 100000 in
set_option maxHeartbeats 800000 in
theorem refCacheNew_any (n k : Nat) (w : World) (hk : 1 ≤ k ∧ k ≤ 4096) :
    Calls Tryd.prog 9 #[.int .i64 (n : Int), .int .i64 (k : Int)] w fun e w' => ∃ g gs cap sp, e = .returned (.pointer (some ⟨g, 0, none⟩)) ∧ RC w' g gs cap sp (newC n k) ∧ w.heap.size ≤ g ∧ w.heap.size ≤ gs ∧ Below w.heap.size w w' := by
  obtain ⟨lo, hlo⟩ : ∃ lo, w.heap.size = lo := ⟨_, rfl⟩
  obtain ⟨i0, hi0, hz0, hs0, hb0⟩ := info_parts info_frame
  obtain ⟨wA, hwA⟩ : ∃ W, w.alloc (.cells #[.int .i64 (n : Int), .slice none 0 0, .int .i64 0, .int .i64 0, .int .i64 0] 40) = W := ⟨_, rfl⟩
  have hzA : wA.heap.size = lo + 1 := by rw [← hwA, size_alloc, hlo]
  have hbA : Below lo w wA := by rw [← hwA, ← hlo]; exact (Below.refl _ _).alloc (Nat.le_refl _) _
  have hlA : Lies wA lo 40 [.int .i64 (n : Int), .slice none 0 0, .int .i64 0, .int .i64 0, .int .i64 0] := by rw [← hwA, ← hlo]; exact lies_new w _ _
  rw [hlo]
  go_enter Tryd.func9, Tryd.ntmps9
  go_wp2_with fail
  go_loopw [6] (fun i wr => ∃ (j : Nat) (v : Value), j ≤ k ∧ i = .int .i64 (j : Int) ∧ Hid (Lies wr lo 40 [.int .i64 (n : Int), v, .int .i64 0, .int .i64 0, .int .i64 0]) ∧ Hid (wr.ownsRow (lo + 1) 42 3 v j (fcells (empties j))) ∧ Below lo w wr) (fun i _ => k - (intOf i).toNat)
  case atStart => exact ⟨0, _, Nat.zero_le _, rfl, Lib.hid hlA, Lib.hid (World.ownsRow_nil _ _ _ _), hbA⟩
  case round =>
    clear hlA hbA
    obtain ⟨j, v, hj, rfl, hL, hrow, hb⟩ := hrel
    have hLl := hL.out.lt
    have hbs := hb.size
    by_cases hlt : j < k
    · have hlti : (j : Int) < (k : Int) := by omega
      obtain ⟨X, cx, rfl⟩ : ∃ X cx, v = .slice X j cx := by
        rcases hrow.out.2 with ⟨h1, h2⟩ | ⟨g, cap, _, h1, _⟩
        · exact ⟨none, 0, by rw [h1, h2]⟩
        · exact ⟨_, cap, h1⟩
      have c1 : wr.cell? ⟨lo, 1, none⟩ = some (.slice X j cx) := hL.out.cell 1
      have HCl : Hid (∀ (z : Nat) (u : Value), [Value.int .i64 (-1), .int .i64 0, .bool false][z]? = some u → (wr.alloc (.cells #[.int .i64 (-1), .int .i64 0, .bool false] 42)).cell? ((⟨wr.heap.size, 0, none⟩ : Addr).add z) = some u) := Lib.hid fun z u hz => by
        rw [Addr.add_mid, Nat.zero_add]
        exact ((lies_new wr 42 [.int .i64 (-1), .int .i64 0, .bool false]).cell z).trans hz
      go_wp2_with (at_builtin; refine wpList_append_own _ rfl (.tmp 19) (.tmp 21) 38 rfl (lo + 1) 42 i0 (.agg #[.int .i64 0, .int .i64 0, .bool false]) 3 24 Tryd.underlying38 hi0 hz0 hs0 hb0 rfl (by decide) _ j _ rfl (hrow.out.alloc _) ⟨wr.heap.size, 0, none⟩ 1 1 [.int .i64 (-1), .int .i64 0, .bool false] rfl rfl HCl.out (fun u hu => by simp at hu; rcases hu with rfl | rfl | rfl <;> rfl) (by unfold maxLen; omega) (by omega) (by rw [size_alloc]; omega) ?_; intro v3 w3 hr3 hg3 _; obtain ⟨g3, cc3, rfl⟩ := ownsRow_one hr3; rw [empties_snoc] at hr3; have HR3 := Lib.hid hr3; have HG3 := Lib.hid hg3; have hL3 := (hL.out.alloc (.cells #[.int .i64 (-1), .int .i64 0, .bool false] 42)).grown hg3 (fun e => by have := (hrow.out.lt lo e.symm).1; omega); have d1 := hL3.cell 1; have d2 := hL3.free 1; have HL3 := Lib.hid hL3)
      go_roundw
      case rel =>
        refine ⟨j + 1, .slice (some ⟨g3, 0, none⟩) (j + 1) cc3, by omega, by go_num, Lib.hid (HL3.out.put 1 _), Lib.hid (ownsRow_setCell_below HR3.out (a := ⟨lo, 1, none⟩) (by show lo < lo + 1; omega) _), ?_⟩
        exact ((hb.alloc (by omega) _).grown HG3.out (by rw [size_alloc]; omega) (fun z e => by have := (hrow.out.lt z e).1; omega)).setCell (p := ⟨lo, 1, none⟩) (Nat.le_refl _) _
      case measure => simp [intOf]; omega
    · obtain rfl : k = j := by omega
      obtain ⟨gs, cap, sp, rfl, hgs, hbody, h1, h2⟩ := row_frames hrow.out (by omega) (by unfold empties; rw [List.length_replicate])
      have HB := Lib.hid hbody
      clear hbody
      go_wp2_with fail
      go_ret
      refine ⟨lo, gs, cap, sp, rfl, ⟨?_, HB.out, ?_, ?_⟩, Nat.le_refl _, by omega, hb⟩
      · have e : (newC n k).F.length = k := List.length_replicate
        rw [e]
        exact hL.out
      · show 0 < (List.replicate k _).length
        rw [List.length_replicate]
        omega
      · show (List.replicate k _).length ≤ 4096 ∧ (List.replicate k _).length ≤ cap ∧ cap ≤ maxLen
        rw [List.length_replicate]
        omega

/-- one cell of a frame turned. -/
theorem RC.put {w : World} {g gs cap : Nat} {sp : List Value} {c : CS} (h : RC w g gs cap sp c) {i j : Nat} {f f' : Fr} (hi : c.F[i]? = some f) (hj : j < 3) (hk : ∀ j', j' < 3 → j' ≠ j → fieldF f' j' = fieldF f j') :
    RC (w.setCell ⟨gs, i * 3 + j, none⟩ (fieldF f' j)) g gs cap sp { c with F := c.F.set i f' } := by
  have hil := (List.getElem?_eq_some_iff.1 hi).1
  have hl : ({ c with F := c.F.set i f' } : CS).F.length = c.F.length := List.length_set
  refine ⟨?_, ?_, by rw [hl]; exact h.hand, by rw [hl]; exact h.few⟩
  · rw [hl]
    exact h.head.far h.ne_ _
  · have e := h.body.put (i * 3 + j) (fieldF f' j)
    rw [List.set_append_left _ _ (by rw [fcells_length]; omega), fcells_set c.F i j f f' hi hj hk] at e
    exact e
theorem RC.free {w : World} {g gs cap : Nat} {sp : List Value} {c : CS} (h : RC w g gs cap sp c) (k : Nat) : w.frozen? ⟨gs, k, none⟩ = false := h.body.free k
/-- the hand, hits, misses turned. -/
theorem RC.hand_ {w : World} {g gs cap : Nat} {sp : List Value} {c : CS} (h : RC w g gs cap sp c) (x : Nat) (hx : x < c.F.length) : RC (w.setCell ⟨g, 2, none⟩ (.int .i64 (x : Int))) g gs cap sp { c with hand := x } :=
  ⟨h.head.put 2 _, h.body.far (Ne.symm h.ne_) _, hx, h.few⟩
theorem RC.hits_ {w : World} {g gs cap : Nat} {sp : List Value} {c : CS} (h : RC w g gs cap sp c) (x : Nat) : RC (w.setCell ⟨g, 3, none⟩ (.int .i64 (x : Int))) g gs cap sp { c with hits := x } :=
  ⟨h.head.put 3 _, h.body.far (Ne.symm h.ne_) _, h.hand, h.few⟩
theorem RC.misses_ {w : World} {g gs cap : Nat} {sp : List Value} {c : CS} (h : RC w g gs cap sp c) (x : Nat) : RC (w.setCell ⟨g, 4, none⟩ (.int .i64 (x : Int))) g gs cap sp { c with misses := x } :=
  ⟨h.head.put 4 _, h.body.far (Ne.symm h.ne_) _, h.hand, h.few⟩

theorem quiet_as {w : World} {f : FuncId} {args : Array Value} {m : Nat} {v : Value} (h : Calls Tryd.prog f args (w.drewN m) fun e w' => e = .returned v ∧ w.drewN m = w') :
    Calls Tryd.prog f args (w.drewN m) fun e w'' => e = .returned v ∧ ∃ j, w'' = w.drewN j := h.mono fun _ _ hh => ⟨hh.1, m, hh.2.symm⟩
/-- where the cache may have turned. -/
def Own2 (g gs : Nat) : World → World → Prop := Off fun k => k ≠ g ∧ k ≠ gs
theorem own2_put {g gs : Nat} {w : World} {a : Addr} (h : a.block = g ∨ a.block = gs) (u : Value) : Own2 g gs w (w.setCell a u) := Off.setCell (by omega) u
end Go.Proofs.YtjmajminfmcjcaaDoor

namespace Go.Proofs.YtjmajminfmcjcaaDoor
open Go.RowKit

theorem modify_at {F : List Fr} {i : Nat} {f : Fr} (h : F[i]? = some f) (t : Fr → Fr) : F.modify i t = F.set i (t f) := by
  apply List.ext_getElem?
  intro k
  rw [List.getElem?_modify, List.getElem?_set]
  have hl := (List.getElem?_eq_some_iff.1 h).1
  by_cases e : i = k
  · rw [← e, h]
    simp [hl]
  · simp [e]

set_option maxRecDepth 100000 in
set_option maxHeartbeats 800000 in
theorem refDrop_any {w : World} {g gs cap : Nat} {sp : List Value} {c : CS} (h : RC w g gs cap sp c) (hq : ∀ (i : Nat) (f : Fr), c.F[i]? = some f → f.held < 2 ^ 62) (x : Int) :
    Calls Tryd.prog 13 #[.pointer (some ⟨g, 0, none⟩), .int .i64 x] w fun e w' => e = .returned (.bool (dropR c x).2) ∧ RC w' g gs cap sp (dropR c x).1 ∧ Own2 g gs w w' := by
  have HA : ∀ k, Hid (Calls Tryd.prog 26 #[.pointer (some ⟨g, 0, none⟩), .int .i64 x] (w.drewN k) fun e w' => e = .returned (.int .i64 (atI c.F x)) ∧ w.drewN k = w') := fun k => Lib.hid (refAt_any (h.same (w' := w.drewN k) rfl rfl) x)
  have HR := Lib.hid h
  have hl1 : ∀ k, (w.drewN k).cell? ⟨g, 1, none⟩ = some (.slice (some ⟨gs, 0, none⟩) c.F.length cap) := fun k => h.head.cell 1
  have same : ∀ k, RC (w.drewN k) g gs cap sp c := fun k => h.same rfl rfl
  by_cases hx : x < 0
  · have hd : decide (x < 0) = true := by simpa using hx
    have hr : dropR c x = (c, false) := by unfold dropR; rw [if_pos (.inl hx)]
    rw [hr]
    clear h hl1
    go_enter Tryd.func13, Tryd.ntmps13
    go_wp2_with fail
    go_quiet (fail)
    go_wp2_with fail
    go_ret
    exact ⟨rfl, same _, ⟨rfl, rfl, rfl, Nat.le_refl _, fun _ _ _ => rfl⟩⟩
  · have hd : decide (x < 0) = false := by simpa using hx
    rcases hf : findF c.F x with _ | i
    · have hr : dropR c x = (c, false) := by unfold dropR heldF; rw [hf, if_pos (.inr rfl)]
      have ha : atI c.F x = -1 := by unfold atI; rw [hf]
      rw [ha] at HA
      rw [hr]
      clear h hl1 ha hf
      go_enter Tryd.func13, Tryd.ntmps13
      go_wp2_with fail
      go_quiet ((go_at_call 26; with_reducible exact quiet_as (HA _).out))
      go_wp2_with fail
      go_ret
      exact ⟨rfl, same _, ⟨rfl, rfl, rfl, Nat.le_refl _, fun _ _ _ => rfl⟩⟩
    · obtain ⟨f, hfi, _, _⟩ := findF_some hf
      have ha : atI c.F x = (i : Int) := by unfold atI; rw [hf]
      have hb := hq i f hfi
      have hil := (List.getElem?_eq_some_iff.1 hfi).1
      have hfew := h.few
      have hi1 : (i : Int) < (c.F.length : Int) := by omega
      have hi0 : decide ((i : Int) < 0) = false := by simp
      have hc1 : ∀ k, (w.drewN k).cell? ⟨gs, i * 3 + 1, none⟩ = some (.int .i64 (f.held : Int)) := fun k => (same k).field (j := 1) hfi (by decide)
      rw [ha] at HA
      by_cases h0 : f.held = 0
      · have hr : dropR c x = (c, false) := by
          unfold dropR heldF
          rw [hf]
          simp only [hfi, Option.map_some, Option.getD_some]
          rw [if_pos (.inr h0)]
        have hz : ((f.held : Int) == 0) = true := by rw [beq_iff_eq]; omega
        rw [hr]
        clear h hf ha
        go_enter Tryd.func13, Tryd.ntmps13
        go_wp2_with fail
        go_quiet ((go_at_call 26; with_reducible exact quiet_as (HA _).out))
        go_wp2_with fail
        go_ret
        exact ⟨rfl, same _, ⟨rfl, rfl, rfl, Nat.le_refl _, fun _ _ _ => rfl⟩⟩
      · have hr : dropR c x = ({ c with F := c.F.modify i fun f => { f with held := f.held - 1 } }, true) := by
          unfold dropR heldF
          rw [hf]
          simp only [hfi, Option.map_some, Option.getD_some]
          rw [if_neg (by omega)]
        have hz : ((f.held : Int) == 0) = false := by rw [beq_eq_false_iff_ne]; omega
        rw [hr]
        have HF := Lib.hid hf
        clear hf ha
        go_enter Tryd.func13, Tryd.ntmps13
        go_wp2_with fail
        go_quiet ((go_at_call 26; with_reducible exact quiet_as (HA _).out))
        go_wp2_with fail
        have HA1 : Hid (Calls Tryd.prog 26 #[.pointer (some ⟨g, 0, none⟩), .int .i64 x] (w.drewN (nq + 1)) fun e w' => e = .returned (.int .i64 (i : Int)) ∧ w.drewN (nq + 1) = w') := HA (nq + 1)
        have hl1 := hl1 (nq + 1)
        have hc1 := hc1 (nq + 1)
        have hf1 : (w.drewN (nq + 1)).frozen? ⟨gs, i * 3 + 1, none⟩ = false := (same (nq + 1)).free _
        have hS1 := same (nq + 1)
        have hO1 : Own2 g gs w (w.drewN (nq + 1)) := ⟨rfl, rfl, rfl, Nat.le_refl _, fun _ _ _ => rfl⟩
        have hw : IntKind.i64.wrap ((f.held : Int) - 1) = ((f.held - 1 : Nat) : Int) := by
          rw [IntWalk.i64_in _ (by omega)]
          omega
        clear same HA
        have hEnd : ∀ w2, w2 = (w.drewN (nq + 1)).setCell ⟨gs, i * 3 + 1, none⟩ (.int .i64 ((f.held - 1 : Nat) : Int)) → RC w2 g gs cap sp { c with F := c.F.modify i fun f => { f with held := f.held - 1 } } ∧ Own2 g gs w w2 := by
          rintro _ rfl
          refine ⟨?_, hO1.trans (own2_put (a := ⟨gs, i * 3 + 1, none⟩) (.inr rfl) _)⟩
          rw [modify_at hfi]
          exact hS1.put (j := 1) (f' := { f with held := f.held - 1 }) hfi (by decide) (by
            intro j' hj' hne
            match j', hj', hne with
            | 0, _, _ => rfl
            | 2, _, _ => rfl)
        have hEnd := Lib.hid hEnd
        go_region_with ((go_at_call 26; with_reducible refine HA1.out.mono ?_; rintro e w' ⟨rfl, rfl⟩))
        all_goals go_wp2_with fail
        all_goals (go_ret; exact ⟨rfl, hEnd.out _ rfl⟩)
end Go.Proofs.YtjmajminfmcjcaaDoor

namespace Go.Proofs.YtjmajminfmcjcaaDoor
open Go.RowKit

/-- no number of the cache is near its end. -/
structure Calm (c : CS) : Prop where
  held : ∀ (i : Nat) (f : Fr), c.F[i]? = some f → f.held < 2 ^ 62
  hits : c.hits < 2 ^ 62
  misses : c.misses < 2 ^ 62
  n : c.n < 2 ^ 62
/-- a whole frame turned, field by field. -/
theorem RC.frame {w : World} {g gs cap : Nat} {sp : List Value} {c : CS} (h : RC w g gs cap sp c) {i : Nat} {f : Fr} (hi : c.F[i]? = some f) (f' : Fr) :
    RC (((w.setCell ⟨gs, i * 3, none⟩ (.int .i64 f'.page)).setCell ⟨gs, i * 3 + 1, none⟩ (.int .i64 (f'.held : Int))).setCell ⟨gs, i * 3 + 2, none⟩ (.bool f'.mark)) g gs cap sp { c with F := c.F.set i f' } := by
  have hil := (List.getElem?_eq_some_iff.1 hi).1
  have h1 := h.put (j := 0) (f' := { f with page := f'.page }) hi (by decide) (by
    intro j' hj' hne
    match j', hj', hne with
    | 1, _, _ => rfl
    | 2, _, _ => rfl)
  have h2 := h1.put (i := i) (j := 1) (f := { f with page := f'.page }) (f' := { f' with mark := f.mark }) (by show (c.F.set i _)[i]? = _; rw [List.getElem?_set_self hil]) (by decide) (by
    intro j' hj' hne
    match j', hj', hne with
    | 0, _, _ => rfl
    | 2, _, _ => rfl)
  have h3 := h2.put (i := i) (j := 2) (f := { f' with mark := f.mark }) (f' := f') (by show ((c.F.set i _).set i _)[i]? = _; rw [List.set_set, List.getElem?_set_self hil]) (by decide) (by
    intro j' hj' hne
    match j', hj', hne with
    | 0, _, _ => rfl
    | 1, _, _ => rfl
    | 2, _, hne => exact absurd rfl hne)
  simp only [List.set_set] at h3
  exact h3
theorem own2_frame {g gs i : Nat} {w w' : World} (h : Own2 g gs w w') (a b d : Value) : Own2 g gs w (((w'.setCell ⟨gs, i * 3, none⟩ a).setCell ⟨gs, i * 3 + 1, none⟩ b).setCell ⟨gs, i * 3 + 2, none⟩ d) :=
  ((h.trans (own2_put (a := ⟨gs, i * 3, none⟩) (.inr rfl) _)).trans (own2_put (a := ⟨gs, i * 3 + 1, none⟩) (.inr rfl) _)).trans (own2_put (a := ⟨gs, i * 3 + 2, none⟩) (.inr rfl) _)
theorem Own2.refl_ (g gs : Nat) (w : World) : Own2 g gs w w := Off.refl _ w
def HoldPost (w : World) (g gs : Nat) (c : CS) (x : Int) (e : Ending) (w' : World) : Prop :=
  ∃ gs' cap' sp', e = .returned (.tuple #[.bool (holdR c x).2.1, .int .i64 ((holdR c x).2.2 : Int)]) ∧ RC w' g gs' cap' sp' (holdR c x).1 ∧ Own2 g gs w w' ∧ (gs' = gs ∨ w.heap.size ≤ gs')

set_option maxRecDepth 100000 in
set_option maxHeartbeats 1600000 in
/-- Hold where the hand has nothing to do. -/
theorem refHold_fast {w : World} {g gs cap : Nat} {sp : List Value} {c : CS} (h : RC w g gs cap sp c) (hq : Calm c) (x : Int) (hs : ¬ (¬ (x < 0 ∨ (c.n : Int) ≤ x) ∧ findF c.F x = none ∧ findF c.F (-1) = none)) :
    Calls Tryd.prog 11 #[.pointer (some ⟨g, 0, none⟩), .int .i64 x] w (HoldPost w g gs c x) := by
  have HA : Hid (Calls Tryd.prog 26 #[.pointer (some ⟨g, 0, none⟩), .int .i64 x] w fun e w' => e = .returned (.int .i64 (atI c.F x)) ∧ w = w') := Lib.hid (refAt_any h x)
  have HE : Hid (Calls Tryd.prog 26 #[.pointer (some ⟨g, 0, none⟩), .int .i64 (-1)] w fun e w' => e = .returned (.int .i64 (atI c.F (-1))) ∧ w = w') := Lib.hid (refAt_any h (-1))
  have HR := Lib.hid h
  have HQ := Lib.hid hq
  have hn := hq.n
  have hhit := hq.hits
  have hmis := hq.misses
  have hl0 : w.cell? ⟨g, 0, none⟩ = some (.int .i64 (c.n : Int)) := h.head.cell 0
  have hl1 : w.cell? ⟨g, 1, none⟩ = some (.slice (some ⟨gs, 0, none⟩) c.F.length cap) := h.head.cell 1
  have hl2 : w.cell? ⟨g, 2, none⟩ = some (.int .i64 (c.hand : Int)) := h.head.cell 2
  have hl3 : w.cell? ⟨g, 3, none⟩ = some (.int .i64 (c.hits : Int)) := h.head.cell 3
  have hl4 : w.cell? ⟨g, 4, none⟩ = some (.int .i64 (c.misses : Int)) := h.head.cell 4
  have hfz : ∀ k, w.frozen? ⟨g, k, none⟩ = false := fun k => h.head.free k
  have hfs : ∀ k, w.frozen? ⟨gs, k, none⟩ = false := fun k => h.free k
  have hfew := h.few
  have hne := h.ne_
  by_cases hx : x < 0 ∨ (c.n : Int) ≤ x
  · have hr : holdR c x = (c, false, 222) := by unfold holdR; rw [if_pos hx]
    have hend : HoldPost w g gs c x (.returned (.tuple #[.bool false, .int .i64 222])) w := by
      unfold HoldPost
      rw [hr]
      exact ⟨gs, cap, sp, rfl, h, ⟨rfl, rfl, rfl, Nat.le_refl _, fun _ _ _ => rfl⟩, .inl rfl⟩
    have HEND := Lib.hid hend
    clear hend h
    by_cases hx0 : x < 0
    · have hd : decide (x < 0) = true := by simpa using hx0
      go_enter Tryd.func11, Tryd.ntmps11
      go_wp2_with fail
      refine bodyPost_ret (v := .tuple #[.bool false, .int .i64 222]) (by simp [results, Tryd.results11, go_sem]) rfl ?_
      exact HEND.out
    · have hd : decide (x < 0) = false := by simpa using hx0
      have hd2 : decide ((c.n : Int) ≤ x) = true := by
        have : (c.n : Int) ≤ x := by omega
        simpa using this
      go_enter Tryd.func11, Tryd.ntmps11
      go_wp2_with fail
      refine bodyPost_ret (v := .tuple #[.bool false, .int .i64 222]) (by simp [results, Tryd.results11, go_sem]) rfl ?_
      exact HEND.out
  · have hx0 : ¬ x < 0 := fun e => hx (.inl e)
    have hx1 : ¬ (c.n : Int) ≤ x := fun e => hx (.inr e)
    have hd : decide (x < 0) = false := by simpa using hx0
    have hd2 : decide ((c.n : Int) ≤ x) = false := by simpa using hx1
    rcases hf : findF c.F x with _ | i
    · have ha : atI c.F x = -1 := by unfold atI; rw [hf]
      rw [ha] at HA
      rcases he : findF c.F (-1) with _ | i
      · have ha2 : atI c.F (-1) = -1 := by unfold atI; rw [he]
        exact absurd ⟨hx, hf, he⟩ hs
      · obtain ⟨f, hfi, _, _⟩ := findF_some he
        have hil := (List.getElem?_eq_some_iff.1 hfi).1
        have ha2 : atI c.F (-1) = (i : Int) := by unfold atI; rw [he]
        rw [ha2] at HE
        have hi1 : (i : Int) < (c.F.length : Int) := by omega
        have hi0 : decide ((i : Int) < 0) = false := by simp
        have hw : IntKind.i64.wrap ((c.misses : Int) + 1) = ((c.misses + 1 : Nat) : Int) := by
          rw [IntWalk.i64_in _ (by omega)]
          omega
        have hr : holdR c x = ({ c with F := c.F.set i ⟨x, 1, true⟩, misses := c.misses + 1 }, false, 0) := by
          unfold holdR
          rw [if_neg hx, hf, he]
        unfold HoldPost
        rw [hr]
        have HF := Lib.hid hfi
        have e0 : w.cell? ⟨gs, i * 3, none⟩ = some (.int .i64 f.page) := h.field (j := 0) hfi (by decide)
        have e1 : w.cell? ⟨gs, i * 3 + 1, none⟩ = some (.int .i64 (f.held : Int)) := h.field (j := 1) hfi (by decide)
        have e2 : w.cell? ⟨gs, i * 3 + 2, none⟩ = some (.bool f.mark) := h.field (j := 2) hfi (by decide)
        clear h hq hf he ha ha2 hfi
        go_enter Tryd.func11, Tryd.ntmps11
        go_wp2_with fail
        refine HA.out.mono ?_
        rintro e w' ⟨rfl, rfl⟩
        go_wp2_with fail
        refine HE.out.mono ?_
        rintro e w' ⟨rfl, rfl⟩
        go_wp2_with fail
        refine bodyPost_ret (v := .tuple #[.bool false, .int .i64 0]) (by simp [results, Tryd.results11, go_sem]) rfl ?_
        exact ⟨gs, cap, sp, rfl, (HR.out.misses_ (c.misses + 1)).frame HF.out ⟨x, 1, true⟩, own2_frame ((Own2.refl_ g gs w).trans (own2_put (a := ⟨g, 4, none⟩) (.inl rfl) _)) _ _ _, .inl rfl⟩
    · obtain ⟨f, hfi, _, _⟩ := findF_some hf
      have hb := hq.held i f hfi
      have hil := (List.getElem?_eq_some_iff.1 hfi).1
      have ha : atI c.F x = (i : Int) := by unfold atI; rw [hf]
      rw [ha] at HA
      have hi1 : (i : Int) < (c.F.length : Int) := by omega
      have hi0 : decide ((0 : Int) ≤ (i : Int)) = true := by simp
      have hc1 : w.cell? ⟨gs, i * 3 + 1, none⟩ = some (.int .i64 (f.held : Int)) := h.field (j := 1) hfi (by decide)
      have hc2 : w.cell? ⟨gs, i * 3 + 2, none⟩ = some (.bool f.mark) := h.field (j := 2) hfi (by decide)
      have hw : IntKind.i64.wrap ((f.held : Int) + 1) = ((f.held + 1 : Nat) : Int) := by
        rw [IntWalk.i64_in _ (by omega)]
        omega
      have hw2 : IntKind.i64.wrap ((c.hits : Int) + 1) = ((c.hits + 1 : Nat) : Int) := by
        rw [IntWalk.i64_in _ (by omega)]
        omega
      have hr : holdR c x = ({ c with F := c.F.set i { f with held := f.held + 1, mark := true }, hits := c.hits + 1 }, true, 0) := by
        unfold holdR
        rw [if_neg hx, hf]
        simp only [modify_at hfi]
      unfold HoldPost
      rw [hr]
      have HF := Lib.hid hfi
      clear h hq hf ha hfi
      go_enter Tryd.func11, Tryd.ntmps11
      go_wp2_with fail
      refine HA.out.mono ?_
      rintro e w' ⟨rfl, rfl⟩
      go_wp2_with fail
      refine bodyPost_ret (v := .tuple #[.bool true, .int .i64 0]) (by simp [results, Tryd.results11, go_sem]) rfl ?_
      have h1 := HR.out.put (j := 1) (f' := { f with held := f.held + 1 }) HF.out (by decide) (by
        intro j' hj' hne
        match j', hj', hne with
        | 0, _, _ => rfl
        | 2, _, _ => rfl)
      have h2 := h1.put (i := i) (j := 2) (f := { f with held := f.held + 1 }) (f' := { f with held := f.held + 1, mark := true }) (by show (c.F.set i _)[i]? = _; rw [List.getElem?_set_self hil]) (by decide) (by
        intro j' hj' hne
        match j', hj', hne with
        | 0, _, _ => rfl
        | 1, _, _ => rfl
        | 2, _, hne => exact absurd rfl hne)
      simp only [List.set_set] at h2
      exact ⟨gs, cap, sp, rfl, h2.hits_ (c.hits + 1), (((Own2.refl_ g gs w).trans (own2_put (a := ⟨gs, i * 3 + 1, none⟩) (.inr rfl) _)).trans (own2_put (a := ⟨gs, i * 3 + 2, none⟩) (.inr rfl) _)).trans (own2_put (a := ⟨g, 3, none⟩) (.inl rfl) _), .inl rfl⟩
end Go.Proofs.YtjmajminfmcjcaaDoor

namespace Go.Proofs.YtjmajminfmcjcaaDoor
open Go.RowKit

theorem fcells_one (F : List Fr) : ∀ u ∈ fcells F, u.oneCell' = true := fun u hu => by
  unfold fcells at hu
  rw [List.mem_flatMap] at hu
  obtain ⟨f, _, h⟩ := hu
  simp [fieldF] at h
  rcases h with rfl | rfl | rfl <;> rfl
theorem clearF_free {F : List Fr} {h : Nat} (hf : freeF F h = true) : clearF F h = F := by
  unfold freeF at hf
  unfold clearF
  rcases e : F[h]? with _ | f
  · rfl
  · rw [e] at hf
    simp at hf
    simp only
    rw [if_pos hf.1]
    have : ({ f with mark := false } : Fr) = f := by
      obtain ⟨p, q, m⟩ := f
      simp at hf
      simp [hf.2]
    rw [this]
    apply List.ext_getElem?
    intro j
    rw [List.getElem?_set]
    by_cases e2 : h = j
    · rw [if_pos e2, if_pos (List.getElem?_eq_some_iff.1 e).1, ← e2, e]
    · rw [if_neg e2]
theorem set_same {F : List Fr} {h : Nat} {f : Fr} (e : F[h]? = some f) : F.set h f = F := by
  apply List.ext_getElem?
  intro j
  rw [List.getElem?_set]
  by_cases e2 : h = j
  · rw [if_pos e2, if_pos (List.getElem?_eq_some_iff.1 e).1, ← e2, e]
  · rw [if_neg e2]
theorem sweep_take {m : Nat} {F : List Fr} {h : Nat} {f : Fr} (e : F[h]? = some f) (h0 : f.held = 0) (h1 : f.mark = false) : sweep (m + 1) F h = some (h, F, nextH F.length h) := by
  unfold sweep freeF
  rw [e]
  simp [h0, h1]
theorem sweep_clear {m : Nat} {F : List Fr} {h : Nat} {f : Fr} (e : F[h]? = some f) (h0 : f.held = 0) (h1 : f.mark = true) : sweep (m + 1) F h = sweep m (F.set h { f with mark := false }) (nextH F.length h) := by
  have e1 : freeF F h = false := by unfold freeF; rw [e]; simp [h0, h1]
  have e2 : clearF F h = F.set h { f with mark := false } := by unfold clearF; rw [e]; simp [h0]
  show (if freeF F h = true then _ else _) = _
  rw [e1, e2]
  rfl
theorem sweep_pass {m : Nat} {F : List Fr} {h : Nat} {f : Fr} (e : F[h]? = some f) (h0 : f.held ≠ 0) : sweep (m + 1) F h = sweep m F (nextH F.length h) := by
  have e1 : freeF F h = false := by unfold freeF; rw [e]; simp [h0]
  have e2 : clearF F h = F := by unfold clearF; rw [e]; simp [h0]
  show (if freeF F h = true then _ else _) = _
  rw [e1, e2]
  rfl
/-- the hand has gone over the end, and stands at the beginning. -/
theorem RC.hand0 {w : World} {g gs cap : Nat} {sp : List Value} {c : CS} (h : RC w g gs cap sp c) (u : Value) : RC ((w.setCell ⟨g, 2, none⟩ u).setCell ⟨g, 2, none⟩ (.int .i64 0)) g gs cap sp { c with hand := 0 } :=
  ⟨(h.head.put 2 u).put 2 _, (h.body.far (Ne.symm h.ne_) _).far (Ne.symm h.ne_) _, Nat.lt_of_le_of_lt (Nat.zero_le _) h.hand, h.few⟩

set_option maxRecDepth 100000 in
set_option maxHeartbeats 3200000 in
theorem refHold_sweep {w : World} {g gs cap : Nat} {sp : List Value} {c : CS} (h : RC w g gs cap sp c) (hq : Calm c) (x : Int) (hx : ¬ (x < 0 ∨ (c.n : Int) ≤ x)) (hf : findF c.F x = none) (he : findF c.F (-1) = none) :
    Calls Tryd.prog 11 #[.pointer (some ⟨g, 0, none⟩), .int .i64 x] w (HoldPost w g gs c x) := by
  have HA : Hid (Calls Tryd.prog 26 #[.pointer (some ⟨g, 0, none⟩), .int .i64 x] w fun e w' => e = .returned (.int .i64 (-1)) ∧ w = w') := Lib.hid (by
    have h := refAt_any h x
    unfold atI at h
    rw [hf] at h
    exact h)
  have HE : Hid (Calls Tryd.prog 26 #[.pointer (some ⟨g, 0, none⟩), .int .i64 (-1)] w fun e w' => e = .returned (.int .i64 (-1)) ∧ w = w') := Lib.hid (by
    have h := refAt_any h (-1)
    unfold atI at h
    rw [he] at h
    exact h)
  have HR := Lib.hid h
  have HQ := Lib.hid hq
  have hn := hq.n
  have hmis := hq.misses
  have hfew := h.few
  have hne := h.ne_
  have hhand := h.hand
  have hgl : g < w.heap.size := h.head.lt
  have hgsl : gs < w.heap.size := h.body.lt
  have hd : decide (x < 0) = false := by
    have : ¬ x < 0 := fun e => hx (.inl e)
    simpa using this
  have hd2 : decide ((c.n : Int) ≤ x) = false := by
    have : ¬ (c.n : Int) ≤ x := fun e => hx (.inr e)
    simpa using this
  have HH : Hid (holdR c x = match sweep (2 * c.F.length) c.F c.hand with
        | some (i, F, h) => ({ c with F := F.set i ⟨x, 1, true⟩, hand := h, misses := c.misses + 1 }, false, 0)
        | none => (c, false, 70)) := Lib.hid (by
    unfold holdR
    rw [if_neg hx, hf, he]
    rfl)
  obtain ⟨i0, hi0, hz0, hs0, hb0⟩ := info_parts info_frame
  have hl0 : w.cell? ⟨g, 0, none⟩ = some (.int .i64 (c.n : Int)) := h.head.cell 0
  obtain ⟨k, hk⟩ : ∃ k, c.F.length = k := ⟨_, rfl⟩
  obtain ⟨lo, hlo⟩ : ∃ lo, w.heap.size = lo := ⟨_, rfl⟩
  obtain ⟨w1, hw1⟩ : ∃ W, w.alloc (.cells #[] 42) = W := ⟨_, rfl⟩
  have hb1 : Below lo w w1 := by rw [← hw1, ← hlo]; exact (Below.refl _ _).alloc (Nat.le_refl _) _
  have hs1 : w1.heap.size = lo + 1 := by rw [← hw1, size_alloc, hlo]
  have HW : Hid (w1.ownsRow lo 42 3 (.slice (some ⟨w.heap.size, 0, none⟩) 0 0) 0 []) := by
    rw [← hw1, ← hlo]
    exact Lib.hid (World.ownsRow_made (base := w.heap.size) (e := 42) (size := 3) w #[] 0 (Nat.le_refl _) (by unfold maxLen; omega) rfl)
  have h1 : RC w1 g gs cap sp c := h.same (hb1.block g (by omega)) (hb1.block gs (by omega))
  have hl1 : w1.cell? ⟨g, 1, none⟩ = some (.slice (some ⟨gs, 0, none⟩) k cap) := by rw [← hk]; exact h1.head.cell 1
  have HCl : Hid (∀ (z : Nat) (u : Value), (fcells c.F)[z]? = some u → w1.cell? ((⟨gs, 0, none⟩ : Addr).add z) = some u) := Lib.hid fun z u hz => by
    rw [Addr.add_mid, Nat.zero_add, h1.body.cell, List.getElem?_append_left (List.getElem?_eq_some_iff.1 hz).1]
    exact hz
  have HK := Lib.hid hk
  have HLO := Lib.hid hlo
  have HGL := Lib.hid (And.intro HR.out.head.lt HR.out.body.lt)
  rw [hk] at hfew hhand
  rw [hlo] at hgl hgsl
  have H1 := Lib.hid h1
  clear h hq hf he hk h1 hlo
  go_enter Tryd.func11, Tryd.ntmps11
  go_wp2_with fail
  refine HA.out.mono ?_
  rintro e w' ⟨rfl, rfl⟩
  go_wp2_with fail
  refine HE.out.mono ?_
  rintro e w' ⟨rfl, rfl⟩
  go_wp2_with (at_builtin; go_loud (refine wpList_append_own _ rfl (.tmp 55) (.tmp 59) 38 rfl lo 42 i0 (.agg #[.int .i64 0, .int .i64 0, .bool false]) 3 24 Tryd.underlying38 hi0 hz0 hs0 hb0 rfl (by decide) _ 0 _ rfl HW.out ⟨gs, 0, none⟩ k cap (fcells c.F) rfl (by rw [fcells_length, HK.out]) HCl.out (fcells_one _) (by unfold maxLen at *; omega) (by omega) (by omega) ?_; intro v3 w3 hr3 hg3 _; rw [Nat.zero_add, List.nil_append] at hr3; obtain ⟨gw, cw, sw, rfl, hgw, hLw, hcw1, hcw2⟩ := row_frames hr3 (by omega) HK.out; have hR3 : RC w3 g gs cap sp c := H1.out.same (hg3.block g (by omega) (fun e => by have h9 : g = w.heap.size := Option.some.inj e; have := HGL.out; omega)) (hg3.block gs (by omega) (fun e => by have h9 : gs = w.heap.size := Option.some.inj e; have := HGL.out; omega)); have d2 : w3.cell? ⟨g, 2, none⟩ = some (.int .i64 (c.hand : Int)) := hR3.head.cell 2; have HR3 := Lib.hid hR3; have HLw := Lib.hid hLw; have hb3 := hb1.grown hg3 (by omega) (fun z e => by have h9 : w.heap.size = z := Option.some.inj e; have := HLO.out; omega); have HB3 := Lib.hid hb3; clear hr3 hg3 hR3 hLw hb3))
  have hw2k : IntKind.i64.wrap (2 * (k : Int)) = ((2 * k : Nat) : Int) := by rw [IntWalk.i64_in _ (by omega)]; omega
  go_loopw [6, 9] (fun iv kv wr => ∃ (K : Nat) (F : List Fr) (hh : Nat), K ≤ 2 * k ∧ kv = .int .i64 (K : Int) ∧ Hid (RC wr g gs cap sp ⟨c.n, F, hh, c.hits, c.misses⟩) ∧ F.length = k ∧ Own2 g gs w3 wr ∧ Hid ((iv = .int .i64 (-1) ∧ sweep (2 * k) c.F c.hand = sweep (2 * k - K) F hh) ∨ ∃ i : Nat, iv = .int .i64 (i : Int) ∧ i < k ∧ sweep (2 * k) c.F c.hand = some (i, F, hh))) (fun _ kv _ => 2 * k - (intOf kv).toNat)
  case atStart => exact ⟨0, c.F, c.hand, Nat.zero_le _, rfl, HR3, HK.out, Off.refl _ _, Lib.hid (.inl ⟨rfl, rfl⟩)⟩
  case round =>
    obtain ⟨K, F, hh, hK, rfl, hRk, hFl, hOk, hor⟩ := hrel
    have hHl : hh < k := by have := hRk.out.hand; rw [← hFl]; exact this
    have d1 : ∀ q, (wr.drewN q).cell? ⟨g, 1, none⟩ = some (.slice (some ⟨gs, 0, none⟩) k cap) := fun q => by have := hRk.out.head.cell 1; rw [← hFl]; exact this
    have d3 : ∀ q, (wr.drewN q).cell? ⟨g, 2, none⟩ = some (.int .i64 (hh : Int)) := fun q => hRk.out.head.cell 2
    have d4 : ∀ q, (wr.drewN q).cell? ⟨g, 4, none⟩ = some (.int .i64 (c.misses : Int)) := fun q => hRk.out.head.cell 4
    have dfz : ∀ q z, (wr.drewN q).frozen? ⟨g, z, none⟩ = false := fun q z => hRk.out.head.free z
    have dfs : ∀ q z, (wr.drewN q).frozen? ⟨gs, z, none⟩ = false := fun q z => hRk.out.free z
    rcases hor.out with ⟨rfl, hsw⟩ | ⟨i, rfl, hi, hsw⟩
    · by_cases hlt : K < 2 * k
      · have hKd : decide ((K : Int) < ((2 * k : Nat) : Int)) = true := by simp; omega
        obtain ⟨f, hfF⟩ : ∃ f, F[hh]? = some f := ⟨_, List.getElem?_eq_getElem (by omega)⟩
        have e1 : ∀ q, (wr.drewN q).cell? ⟨gs, hh * 3 + 1, none⟩ = some (.int .i64 (f.held : Int)) := fun q => hRk.out.field (j := 1) hfF (by decide)
        have e2 : ∀ q, (wr.drewN q).cell? ⟨gs, hh * 3 + 2, none⟩ = some (.bool f.mark) := fun q => hRk.out.field (j := 2) hfF (by decide)
        have hHi : (hh : Int) < (k : Int) := by omega
        have hwh : IntKind.i64.wrap ((hh : Int) + 1) = (hh : Int) + 1 := IntWalk.i64_in _ (by omega)
        have hwK : IntKind.i64.wrap ((K : Int) + 1) = (K : Int) + 1 := IntWalk.i64_in _ (by omega)
        have HF := Lib.hid hfF
        have HSW := Lib.hid hsw
        have hk2 : ∀ j', j' < 3 → j' ≠ 2 → fieldF { f with mark := false } j' = fieldF f j' := by
          intro j' hj' hne
          match j', hj', hne with
          | 0, _, _ => rfl
          | 1, _, _ => rfl
          | 2, _, hne => exact absurd rfl hne
        clear hfF hsw hor
        by_cases hz : f.held = 0
        · have hzd : ((f.held : Int) == 0) = true := by rw [beq_iff_eq]; omega
          rcases hm : f.mark with _ | _
          · rw [hm] at e2
            by_cases hl : hh + 1 = k
            · have hld : ((hh : Int) + 1 == (k : Int)) = true := by rw [beq_iff_eq]; omega
              have HN : Hid (nextH F.length hh = 0) := Lib.hid (by unfold nextH; rw [hFl, if_pos hl])
              have HS2 : Hid (sweep (2 * k) c.F c.hand = some (hh, F.set hh { f with mark := false }, 0)) := Lib.hid (by rw [HSW.out, show 2 * k - K = (2 * k - (K + 1)) + 1 by omega, sweep_take HF.out hz hm, HN.out, show ({ f with mark := false } : Fr) = f by rw [← hm], set_same HF.out])
              go_wp2_with fail
              go_quiet (fail)
              go_wp2_with fail
              refine ⟨⟨K + 1, F.set hh { f with mark := false }, 0, by omega, by go_num, Lib.hid (((hRk.out.same (w' := wr.drewN nq) rfl rfl).put (j := 2) (f' := { f with mark := false }) HF.out (by decide) hk2).hand0 _), (by rw [List.length_set]; exact hFl), ((hOk.trans (⟨rfl, rfl, rfl, Nat.le_refl _, fun _ _ _ => rfl⟩ : Own2 g gs wr (wr.drewN nq))).trans (own2_put (a := ⟨gs, hh * 3 + 2, none⟩) (.inr rfl) _)).trans ((own2_put (a := ⟨g, 2, none⟩) (.inl rfl) _).trans (own2_put (a := ⟨g, 2, none⟩) (.inl rfl) _)), Lib.hid (.inr ⟨hh, rfl, hHl, HS2.out⟩)⟩, by simp [intOf]; omega⟩
            · have hld : ((hh : Int) + 1 == (k : Int)) = false := by rw [beq_eq_false_iff_ne]; omega
              have HN : Hid (nextH F.length hh = (hh + 1)) := Lib.hid (by unfold nextH; rw [hFl, if_neg hl])
              have HS2 : Hid (sweep (2 * k) c.F c.hand = some (hh, F.set hh { f with mark := false }, (hh + 1))) := Lib.hid (by rw [HSW.out, show 2 * k - K = (2 * k - (K + 1)) + 1 by omega, sweep_take HF.out hz hm, HN.out, show ({ f with mark := false } : Fr) = f by rw [← hm], set_same HF.out])
              go_wp2_with fail
              go_quiet (fail)
              go_wp2_with fail
              refine ⟨⟨K + 1, F.set hh { f with mark := false }, (hh + 1), by omega, by go_num, Lib.hid (((hRk.out.same (w' := wr.drewN nq) rfl rfl).put (j := 2) (f' := { f with mark := false }) HF.out (by decide) hk2).hand_ (hh + 1) (by show hh + 1 < (F.set hh _).length; rw [List.length_set]; omega)), (by rw [List.length_set]; exact hFl), ((hOk.trans (⟨rfl, rfl, rfl, Nat.le_refl _, fun _ _ _ => rfl⟩ : Own2 g gs wr (wr.drewN nq))).trans (own2_put (a := ⟨gs, hh * 3 + 2, none⟩) (.inr rfl) _)).trans (own2_put (a := ⟨g, 2, none⟩) (.inl rfl) _), Lib.hid (.inr ⟨hh, rfl, hHl, HS2.out⟩)⟩, by simp [intOf]; omega⟩
          · rw [hm] at e2
            by_cases hl : hh + 1 = k
            · have hld : ((hh : Int) + 1 == (k : Int)) = true := by rw [beq_iff_eq]; omega
              have HN : Hid (nextH F.length hh = 0) := Lib.hid (by unfold nextH; rw [hFl, if_pos hl])
              have HS2 : Hid (sweep (2 * k) c.F c.hand = sweep (2 * k - (K + 1)) (F.set hh { f with mark := false }) 0) := Lib.hid (by rw [HSW.out, show 2 * k - K = (2 * k - (K + 1)) + 1 by omega, sweep_clear HF.out hz hm, HN.out])
              go_wp2_with fail
              go_quiet (fail)
              go_wp2_with fail
              refine ⟨⟨K + 1, F.set hh { f with mark := false }, 0, by omega, by go_num, Lib.hid (((hRk.out.same (w' := wr.drewN nq) rfl rfl).put (j := 2) (f' := { f with mark := false }) HF.out (by decide) hk2).hand0 _), (by rw [List.length_set]; exact hFl), ((hOk.trans (⟨rfl, rfl, rfl, Nat.le_refl _, fun _ _ _ => rfl⟩ : Own2 g gs wr (wr.drewN nq))).trans (own2_put (a := ⟨gs, hh * 3 + 2, none⟩) (.inr rfl) _)).trans ((own2_put (a := ⟨g, 2, none⟩) (.inl rfl) _).trans (own2_put (a := ⟨g, 2, none⟩) (.inl rfl) _)), Lib.hid (.inl ⟨rfl, HS2.out⟩)⟩, by simp [intOf]; omega⟩
            · have hld : ((hh : Int) + 1 == (k : Int)) = false := by rw [beq_eq_false_iff_ne]; omega
              have HN : Hid (nextH F.length hh = (hh + 1)) := Lib.hid (by unfold nextH; rw [hFl, if_neg hl])
              have HS2 : Hid (sweep (2 * k) c.F c.hand = sweep (2 * k - (K + 1)) (F.set hh { f with mark := false }) (hh + 1)) := Lib.hid (by rw [HSW.out, show 2 * k - K = (2 * k - (K + 1)) + 1 by omega, sweep_clear HF.out hz hm, HN.out])
              go_wp2_with fail
              go_quiet (fail)
              go_wp2_with fail
              refine ⟨⟨K + 1, F.set hh { f with mark := false }, (hh + 1), by omega, by go_num, Lib.hid (((hRk.out.same (w' := wr.drewN nq) rfl rfl).put (j := 2) (f' := { f with mark := false }) HF.out (by decide) hk2).hand_ (hh + 1) (by show hh + 1 < (F.set hh _).length; rw [List.length_set]; omega)), (by rw [List.length_set]; exact hFl), ((hOk.trans (⟨rfl, rfl, rfl, Nat.le_refl _, fun _ _ _ => rfl⟩ : Own2 g gs wr (wr.drewN nq))).trans (own2_put (a := ⟨gs, hh * 3 + 2, none⟩) (.inr rfl) _)).trans (own2_put (a := ⟨g, 2, none⟩) (.inl rfl) _), Lib.hid (.inl ⟨rfl, HS2.out⟩)⟩, by simp [intOf]; omega⟩
        · have hzd : ((f.held : Int) == 0) = false := by rw [beq_eq_false_iff_ne]; omega
          by_cases hl : hh + 1 = k
          · have hld : ((hh : Int) + 1 == (k : Int)) = true := by rw [beq_iff_eq]; omega
            have HN : Hid (nextH F.length hh = 0) := Lib.hid (by unfold nextH; rw [hFl, if_pos hl])
            have HS2 : Hid (sweep (2 * k) c.F c.hand = sweep (2 * k - (K + 1)) F 0) := Lib.hid (by rw [HSW.out, show 2 * k - K = (2 * k - (K + 1)) + 1 by omega, sweep_pass HF.out hz, HN.out])
            go_wp2_with fail
            go_quiet (fail)
            go_wp2_with fail
            refine ⟨⟨K + 1, F, 0, by omega, by go_num, Lib.hid ((hRk.out.same (w' := wr.drewN nq) rfl rfl).hand0 _), hFl, (hOk.trans (⟨rfl, rfl, rfl, Nat.le_refl _, fun _ _ _ => rfl⟩ : Own2 g gs wr (wr.drewN nq))).trans ((own2_put (a := ⟨g, 2, none⟩) (.inl rfl) _).trans (own2_put (a := ⟨g, 2, none⟩) (.inl rfl) _)), Lib.hid (.inl ⟨rfl, HS2.out⟩)⟩, by simp [intOf]; omega⟩
          · have hld : ((hh : Int) + 1 == (k : Int)) = false := by rw [beq_eq_false_iff_ne]; omega
            have HN : Hid (nextH F.length hh = (hh + 1)) := Lib.hid (by unfold nextH; rw [hFl, if_neg hl])
            have HS2 : Hid (sweep (2 * k) c.F c.hand = sweep (2 * k - (K + 1)) F (hh + 1)) := Lib.hid (by rw [HSW.out, show 2 * k - K = (2 * k - (K + 1)) + 1 by omega, sweep_pass HF.out hz, HN.out])
            go_wp2_with fail
            go_quiet (fail)
            go_wp2_with fail
            refine ⟨⟨K + 1, F, (hh + 1), by omega, by go_num, Lib.hid ((hRk.out.same (w' := wr.drewN nq) rfl rfl).hand_ (hh + 1) (by show hh + 1 < F.length; omega)), hFl, (hOk.trans (⟨rfl, rfl, rfl, Nat.le_refl _, fun _ _ _ => rfl⟩ : Own2 g gs wr (wr.drewN nq))).trans (own2_put (a := ⟨g, 2, none⟩) (.inl rfl) _), Lib.hid (.inl ⟨rfl, HS2.out⟩)⟩, by simp [intOf]; omega⟩
      · obtain rfl : K = 2 * k := by omega
        have hKd : decide (((2 * k : Nat) : Int) < ((2 * k : Nat) : Int)) = false := by simp
        have HS2 : Hid (holdR c x = (c, false, 70)) := Lib.hid (by
          rw [HH.out, HK.out, hsw, Nat.sub_self]
          rfl)
        clear hor hsw
        have d1 : wr.cell? ⟨g, 1, none⟩ = some (.slice (some ⟨gs, 0, none⟩) k cap) := d1 0
        have d3 : wr.cell? ⟨g, 2, none⟩ = some (.int .i64 (hh : Int)) := d3 0
        have dfz : ∀ z, wr.frozen? ⟨g, z, none⟩ = false := dfz 0
        have hgw3 : gw < w3.heap.size := HLw.out.lt
        have hEnd : ∀ W, W = (wr.setCell ⟨g, 1, none⟩ (.slice (some ⟨gw, 0, none⟩) k cw)).setCell ⟨g, 2, none⟩ (.int .i64 (c.hand : Int)) → HoldPost w g gs c x (.returned (.tuple #[.bool false, .int .i64 70])) W := by
          rintro _ rfl
          unfold HoldPost
          rw [HS2.out]
          have hL := (hRk.out.head.put 1 (.slice (some ⟨gw, 0, none⟩) k cw)).put 2 (.int .i64 (c.hand : Int))
          have hgl2 := HGL.out
          have hlo2 := HLO.out
          have hG := HLw.out.same (w' := wr) (hOk.block gw hgw3 ⟨by omega, by omega⟩)
          have hgg : gw ≠ g := by omega
          refine ⟨gw, cw, sw, rfl, ⟨by rw [HK.out]; exact hL, (hG.far hgg _).far hgg _, HR.out.hand, by rw [HK.out]; omega⟩, ?_, .inr (by omega)⟩
          exact (((Off.call (HLO.out ▸ HB3.out)).trans hOk).trans (own2_put (a := ⟨g, 1, none⟩) (.inl rfl) _)).trans (own2_put (a := ⟨g, 2, none⟩) (.inl rfl) _)
        have HEnd := Lib.hid hEnd
        clear hEnd
        go_wp2_with fail
        refine bodyPost_ret (v := .tuple #[.bool false, .int .i64 70]) (by simp [results, Tryd.results11, go_sem]) rfl ?_
        exact HEnd.out _ rfl
    · have hid0 : decide ((i : Int) < 0) = false := by simp
      obtain ⟨f, hfF⟩ : ∃ f, F[i]? = some f := ⟨_, List.getElem?_eq_getElem (by omega)⟩
      have q1 : wr.cell? ⟨g, 1, none⟩ = some (.slice (some ⟨gs, 0, none⟩) k cap) := d1 0
      have q4 : wr.cell? ⟨g, 4, none⟩ = some (.int .i64 (c.misses : Int)) := d4 0
      have qfz : ∀ z, wr.frozen? ⟨g, z, none⟩ = false := dfz 0
      have qfs : ∀ z, wr.frozen? ⟨gs, z, none⟩ = false := dfs 0
      have e0 : wr.cell? ⟨gs, i * 3, none⟩ = some (.int .i64 f.page) := hRk.out.field (j := 0) hfF (by decide)
      have e1 : wr.cell? ⟨gs, i * 3 + 1, none⟩ = some (.int .i64 (f.held : Int)) := hRk.out.field (j := 1) hfF (by decide)
      have e2 : wr.cell? ⟨gs, i * 3 + 2, none⟩ = some (.bool f.mark) := hRk.out.field (j := 2) hfF (by decide)
      have hii : (i : Int) < (k : Int) := by omega
      have hwm : IntKind.i64.wrap ((c.misses : Int) + 1) = ((c.misses + 1 : Nat) : Int) := by
        rw [IntWalk.i64_in _ (by omega)]
        omega
      have HS2 : Hid (holdR c x = ({ c with F := F.set i ⟨x, 1, true⟩, hand := hh, misses := c.misses + 1 }, false, 0)) := Lib.hid (by
        rw [HH.out, HK.out, hsw])
      have hEnd : ∀ W, W = (((wr.setCell ⟨g, 4, none⟩ (.int .i64 ((c.misses + 1 : Nat) : Int))).setCell ⟨gs, i * 3, none⟩ (.int .i64 x)).setCell ⟨gs, i * 3 + 1, none⟩ (.int .i64 1)).setCell ⟨gs, i * 3 + 2, none⟩ (.bool true) → HoldPost w g gs c x (.returned (.tuple #[.bool false, .int .i64 0])) W := by
        rintro _ rfl
        unfold HoldPost
        rw [HS2.out]
        exact ⟨gs, cap, sp, rfl, (hRk.out.misses_ (c.misses + 1)).frame hfF ⟨x, 1, true⟩, own2_frame (((Off.call (HLO.out ▸ HB3.out)).trans hOk).trans (own2_put (a := ⟨g, 4, none⟩) (.inl rfl) _)) _ _ _, .inl rfl⟩
      have HEnd := Lib.hid hEnd
      clear hEnd d1 d3 d4 dfz dfs hor hsw hfF
      by_cases hlt : K < 2 * k
      · have hKd : decide ((K : Int) < ((2 * k : Nat) : Int)) = true := by simp; omega
        go_wp2_with fail
        refine bodyPost_ret (v := .tuple #[.bool false, .int .i64 0]) (by simp [results, Tryd.results11, go_sem]) rfl ?_
        exact HEnd.out _ rfl
      · have hKd : decide ((K : Int) < ((2 * k : Nat) : Int)) = false := by simp; omega
        go_wp2_with fail
        refine bodyPost_ret (v := .tuple #[.bool false, .int .i64 0]) (by simp [results, Tryd.results11, go_sem]) rfl ?_
        exact HEnd.out _ rfl

theorem refHold_any {w : World} {g gs cap : Nat} {sp : List Value} {c : CS} (h : RC w g gs cap sp c) (hq : Calm c) (x : Int) :
    Calls Tryd.prog 11 #[.pointer (some ⟨g, 0, none⟩), .int .i64 x] w (HoldPost w g gs c x) := by
  by_cases hs : ¬ (x < 0 ∨ (c.n : Int) ≤ x) ∧ findF c.F x = none ∧ findF c.F (-1) = none
  · exact refHold_sweep h hq x hs.1 hs.2.1 hs.2.2
  · exact refHold_fast h hq x hs
end Go.Proofs.YtjmajminfmcjcaaDoor

namespace Go.Proofs.YtjmajminfmcjcaaDoor
open Go.RowKit

theorem countP_take {F : List Fr} (p : Fr → Bool) {i : Nat} {f : Fr} (h : F[i]? = some f) : (F.take (i + 1)).countP p = (F.take i).countP p + (if p f then 1 else 0) := by
  rw [List.take_add_one, h, List.countP_append]
  simp [List.countP_cons]
set_option maxRecDepth 100000 in
set_option maxHeartbeats 1600000 in
theorem refStats_any {w : World} {g gs cap : Nat} {sp : List Value} {c : CS} (h : RC w g gs cap sp c) :
    Calls Tryd.prog 16 #[.pointer (some ⟨g, 0, none⟩)] w fun e w' => e = .returned (.agg #[.int .i64 (c.hits : Int), .int .i64 (c.misses : Int), .int .i64 (heldN c.F : Int), .int .i64 (pinnedN c.F : Int)]) ∧ Below w.heap.size w w' := by
  obtain ⟨lo, hlo⟩ : ∃ lo, w.heap.size = lo := ⟨_, rfl⟩
  have hgl : g < w.heap.size := h.head.lt
  have hgsl : gs < w.heap.size := h.body.lt
  have HR := Lib.hid h
  obtain ⟨wA, hwA⟩ : ∃ W, w.alloc (.cells #[.int .i64 0, .int .i64 0, .int .i64 0, .int .i64 0] 44) = W := ⟨_, rfl⟩
  have hzA : wA.heap.size = lo + 1 := by rw [← hwA, size_alloc, hlo]
  have hbA : Below lo w wA := by rw [← hwA, ← hlo]; exact (Below.refl _ _).alloc (Nat.le_refl _) _
  have hA : RC wA g gs cap sp c := h.same (hbA.block g (by omega)) (hbA.block gs (by omega))
  have d3 : wA.cell? ⟨g, 3, none⟩ = some (.int .i64 (c.hits : Int)) := hA.head.cell 3
  have d4 : wA.cell? ⟨g, 4, none⟩ = some (.int .i64 (c.misses : Int)) := hA.head.cell 4
  have HRA := Lib.hid hA
  obtain ⟨k, hk⟩ : ∃ k, c.F.length = k := ⟨_, rfl⟩
  have HK := Lib.hid hk
  have hfew := h.few
  rw [hk] at hfew
  rw [hlo] at hgl hgsl
  rw [hlo]
  clear h hA hk
  go_enter Tryd.func16, Tryd.ntmps16
  have hlS : Lies (wA.alloc (.cells #[.int .i64 (c.hits : Int), .int .i64 (c.misses : Int), .int .i64 0, .int .i64 0] 44)).drew (lo + 1) 44 [.int .i64 (c.hits : Int), .int .i64 (c.misses : Int), .int .i64 0, .int .i64 0] := by rw [← hzA]; exact lies_new wA _ _
  have hlR : Lies wA lo 44 [.int .i64 0, .int .i64 0, .int .i64 0, .int .i64 0] := by rw [← hwA, ← hlo]; exact lies_new w _ _
  have hbS : Below (lo + 1) wA (wA.alloc (.cells #[.int .i64 (c.hits : Int), .int .i64 (c.misses : Int), .int .i64 0, .int .i64 0] 44)).drew := by
    have h := (Below.refl (lo + 1) wA).alloc (by omega) (.cells #[.int .i64 (c.hits : Int), .int .i64 (c.misses : Int), .int .i64 0, .int .i64 0] 44)
    exact ⟨h.os, h.tape, h.output, h.size, h.block⟩
  have HLS := Lib.hid hlS
  have HLR := Lib.hid hlR
  have HBS := Lib.hid hbS
  clear hlS hlR hbS
  go_upto_region 1 with (fail)
  go_cut [3] (fun s wx => s = .pointer (some ⟨lo + 1, 0, none⟩) ∧ Lies wx (lo + 1) 44 [.int .i64 (c.hits : Int), .int .i64 (c.misses : Int), .int .i64 0, .int .i64 0] ∧ Below (lo + 1) wA wx)
  case first =>
    go_region_with (fail)
    all_goals
      go_wp2_with fail
      go_meet
      exact ⟨rfl, HLS.out, HBS.out⟩
  case rest =>
    obtain ⟨rfl, hS, hB⟩ := hcut
    have hC : RC wc g gs cap sp c := HRA.out.same (hB.block g (by omega)) (hB.block gs (by omega))
    have q1 : wc.cell? ⟨g, 1, none⟩ = some (.slice (some ⟨gs, 0, none⟩) k cap) := by rw [← HK.out]; exact hC.head.cell 1
    have hRC : Lies wc lo 44 [.int .i64 0, .int .i64 0, .int .i64 0, .int .i64 0] := HLR.out.same (hB.block lo (by omega))
    have hBw := hbA.trans (hB.mono (by omega))
    go_wp2_with fail
    go_loopw [20] (fun v wr => ∃ i : Nat, i ≤ k ∧ v = .int .i64 (i : Int) ∧ Hid (Lies wr (lo + 1) 44 [.int .i64 (c.hits : Int), .int .i64 (c.misses : Int), .int .i64 (heldN (c.F.take i) : Int), .int .i64 (pinnedN (c.F.take i) : Int)]) ∧ Hid (Lies wr lo 44 [.int .i64 0, .int .i64 0, .int .i64 0, .int .i64 0]) ∧ Below lo w wr) (fun v _ => k - (intOf v).toNat)
    case atStart => exact ⟨0, Nat.zero_le _, rfl, Lib.hid hS, Lib.hid hRC, hBw⟩
    case round =>
      obtain ⟨i, hi, rfl, hL, hZ, hb⟩ := hrel
      have hLl := hL.out.lt
      have hRk : RC wr g gs cap sp c := HR.out.same (hb.block g (by omega)) (hb.block gs (by omega))
      have HRk := Lib.hid hRk
      by_cases hlt : i < k
      · have hlti : (i : Int) < (k : Int) := by omega
        obtain ⟨f, hfF⟩ : ∃ f, c.F[i]? = some f := ⟨_, List.getElem?_eq_getElem (by rw [HK.out]; omega)⟩
        have e0 : wr.cell? ⟨gs, i * 3, none⟩ = some (.int .i64 f.page) := hRk.field (j := 0) hfF (by decide)
        have e1 : wr.cell? ⟨gs, i * 3 + 1, none⟩ = some (.int .i64 (f.held : Int)) := hRk.field (j := 1) hfF (by decide)
        have e2 : wr.cell? ⟨gs, i * 3 + 2, none⟩ = some (.bool f.mark) := hRk.field (j := 2) hfF (by decide)
        have s2 := hL.out.cell 2
        have s3 := hL.out.cell 3
        have HF := Lib.hid hfF
        clear hfF hRk
        have sf : ∀ z, wr.frozen? ⟨lo + 1, z, none⟩ = false := fun z => hL.out.free z
        have hHk : heldN (c.F.take i) ≤ i := Nat.le_trans List.countP_le_length (by rw [List.length_take]; omega)
        have hPk : pinnedN (c.F.take i) ≤ i := Nat.le_trans List.countP_le_length (by rw [List.length_take]; omega)
        have eH : Hid (heldN (c.F.take (i + 1)) = heldN (c.F.take i) + (if decide (0 ≤ f.page) = true then 1 else 0)) := Lib.hid (countP_take _ HF.out)
        have eP : Hid (pinnedN (c.F.take (i + 1)) = pinnedN (c.F.take i) + (if decide (0 < f.held) = true then 1 else 0)) := Lib.hid (countP_take _ HF.out)
        generalize heldN (c.F.take i) = H at hL s2 hHk eH
        generalize pinnedN (c.F.take i) = P at hL s3 hPk eP
        have hwH : IntKind.i64.wrap ((H : Int) + 1) = (H : Int) + 1 := IntWalk.i64_in _ (by omega)
        have hwP : IntKind.i64.wrap ((P : Int) + 1) = (P : Int) + 1 := IntWalk.i64_in _ (by omega)
        have hnat : ∀ b, decide (0 < f.held) = b → decide (0 < (f.held : Int)) = b := by
          intro b hb2
          rw [← hb2]
          simp
        by_cases hp0 : 0 ≤ f.page <;> by_cases hh0 : 0 < f.held
        · have hp : decide (0 ≤ f.page) = true := by simpa using hp0
          have hh : decide (0 < (f.held : Int)) = true := hnat _ (by simpa using hh0)
          have eH2 : Hid (heldN (c.F.take (i + 1)) = H + 1) := Lib.hid (by rw [eH.out]; simp [hp0])
          have eP2 : Hid (pinnedN (c.F.take (i + 1)) = P + 1) := Lib.hid (by rw [eP.out]; simp [hh0])
          clear eH eP hnat
          go_wp2_with fail
          have hl1 : lo ≠ lo + 1 := by omega
          refine ⟨⟨i + 1, by omega, by go_num, Lib.hid ?_, Lib.hid (((hZ.out.far hl1 _).far hl1 _).alloc _), ((hb.setCell (p := ⟨lo + 1, 2, none⟩) (Nat.le_succ _) _).setCell (p := ⟨lo + 1, 3, none⟩) (Nat.le_succ _) _).alloc (by first | omega | (simp [World.setCell]; omega)) _⟩, by simp [intOf]; omega⟩
          rw [eH2.out, eP2.out]
          exact ((hL.out.put 2 (.int .i64 ((H + 1 : Nat) : Int))).put 3 (.int .i64 ((P + 1 : Nat) : Int))).alloc _
        · have hp : decide (0 ≤ f.page) = true := by simpa using hp0
          have hh : decide (0 < (f.held : Int)) = false := hnat _ (by simpa using hh0)
          have eH2 : Hid (heldN (c.F.take (i + 1)) = H + 1) := Lib.hid (by rw [eH.out]; simp [hp0])
          have eP2 : Hid (pinnedN (c.F.take (i + 1)) = P) := Lib.hid (by rw [eP.out]; simp [hh0])
          clear eH eP hnat
          go_wp2_with fail
          have hl1 : lo ≠ lo + 1 := by omega
          refine ⟨⟨i + 1, by omega, by go_num, Lib.hid ?_, Lib.hid ((hZ.out.far hl1 _).alloc _), (hb.setCell (p := ⟨lo + 1, 2, none⟩) (Nat.le_succ _) _).alloc (by first | omega | (simp [World.setCell]; omega)) _⟩, by simp [intOf]; omega⟩
          rw [eH2.out, eP2.out]
          exact (hL.out.put 2 (.int .i64 ((H + 1 : Nat) : Int))).alloc _
        · have hp : decide (0 ≤ f.page) = false := by simpa using hp0
          have hh : decide (0 < (f.held : Int)) = true := hnat _ (by simpa using hh0)
          have eH2 : Hid (heldN (c.F.take (i + 1)) = H) := Lib.hid (by rw [eH.out]; simp [hp0])
          have eP2 : Hid (pinnedN (c.F.take (i + 1)) = P + 1) := Lib.hid (by rw [eP.out]; simp [hh0])
          clear eH eP hnat
          go_wp2_with fail
          have hl1 : lo ≠ lo + 1 := by omega
          refine ⟨⟨i + 1, by omega, by go_num, Lib.hid ?_, Lib.hid ((hZ.out.far hl1 _).alloc _), (hb.setCell (p := ⟨lo + 1, 3, none⟩) (Nat.le_succ _) _).alloc (by first | omega | (simp [World.setCell]; omega)) _⟩, by simp [intOf]; omega⟩
          rw [eH2.out, eP2.out]
          exact (hL.out.put 3 (.int .i64 ((P + 1 : Nat) : Int))).alloc _
        · have hp : decide (0 ≤ f.page) = false := by simpa using hp0
          have hh : decide (0 < (f.held : Int)) = false := hnat _ (by simpa using hh0)
          have eH2 : Hid (heldN (c.F.take (i + 1)) = H) := Lib.hid (by rw [eH.out]; simp [hp0])
          have eP2 : Hid (pinnedN (c.F.take (i + 1)) = P) := Lib.hid (by rw [eP.out]; simp [hh0])
          clear eH eP hnat
          go_wp2_with fail
          have hl1 : lo ≠ lo + 1 := by omega
          refine ⟨⟨i + 1, by omega, by go_num, Lib.hid ?_, Lib.hid (hZ.out.alloc _), hb.alloc (by first | omega | (simp [World.setCell]; omega)) _⟩, by simp [intOf]; omega⟩
          rw [eH2.out, eP2.out]
          exact hL.out.alloc _
      · obtain rfl : i = k := by omega
        have h9 : Hid (c.F.take i = c.F) := Lib.hid (List.take_of_length_le (by rw [HK.out]; exact Nat.le_refl _))
        rw [h9.out] at hL
        have z0 := hZ.out.cell 0
        have z1 := hZ.out.cell 1
        have z2 := hZ.out.cell 2
        have z3 := hZ.out.cell 3
        have s0 := hL.out.cell 0
        have s1 := hL.out.cell 1
        have s2 := hL.out.cell 2
        have s3 := hL.out.cell 3
        have zf : ∀ z, wr.frozen? ⟨lo, z, none⟩ = false := fun z => hZ.out.free z
        clear hRk
        go_wp2_with fail
        refine bodyPost_ret (v := .agg #[.int .i64 (c.hits : Int), .int .i64 (c.misses : Int), .int .i64 (heldN c.F : Int), .int .i64 (pinnedN c.F : Int)]) ?_ rfl ⟨rfl, ((((hb.setCell (p := ⟨lo, 0, none⟩) (Nat.le_refl _) _).setCell (p := ⟨lo, 1, none⟩) (Nat.le_refl _) _).setCell (p := ⟨lo, 2, none⟩) (Nat.le_refl _) _).setCell (p := ⟨lo, 3, none⟩) (Nat.le_refl _) _)⟩
        have hE := (((hZ.out.put 0 (.int .i64 (c.hits : Int))).put 1 (.int .i64 (c.misses : Int))).put 2 (.int .i64 (heldN c.F : Int))).put 3 (.int .i64 (pinnedN c.F : Int))
        have y0 := hE.cell 0
        have y1 := hE.cell 1
        have y2 := hE.cell 2
        have y3 := hE.cell 3
        simp at y0 y1 y2 y3
        simp [results, Tryd.results16, go_sem, y0, y1, y2, y3]
end Go.Proofs.YtjmajminfmcjcaaDoor
