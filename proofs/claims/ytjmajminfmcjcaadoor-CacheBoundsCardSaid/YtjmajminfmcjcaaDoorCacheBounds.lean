/- For every input colophonlaw07.CacheBounds returns true, and its arguments read as they read. No condition but that the two tables lie as the program's text lays them (the card ties it). -/
import Derived.Test.YtjmajminfmcjcaaDoorCacLaw
import Derived.Deep.MidRow
namespace Go.Proofs.YtjmajminfmcjcaaDoor.cacheBounds
open Go.ChangeShapes Go.WideShapes Go.ChangeAt Go.RowKit

/-- one number put. -/
def put (S : Nat → Nat) (x v : Nat) : Nat → Nat := fun m => if x = m then v else S m
/-- what the loop keeps: how often each page is held. -/
structure Bnd (c : CS) (S : Nat → Nat) (i k : Nat) : Prop where
  n : c.n = 21
  len : c.F.length = k
  upto : Upto c i
  unlike : Unlike c.F
  idle : Idle c.F
  paged : Paged c.F c.n
  held : ∀ p : Nat, heldF c.F (p : Int) = S p
theorem heldF_le {F : List Fr} {m : Nat} (h : HeldTo F m) (x : Int) : heldF F x ≤ m := by
  unfold heldF
  rcases e : findF F x with _ | i
  · exact Nat.zero_le _
  · obtain ⟨f, hf, _⟩ := findF_some e
    show ((F[i]?).map Fr.held).getD 0 ≤ m
    rw [hf]
    exact h f (List.mem_of_getElem? hf)
theorem Bnd.le {c : CS} {S : Nat → Nat} {i k : Nat} (h : Bnd c S i k) (p : Nat) : S p ≤ i := by
  rw [← h.held p]
  exact heldF_le h.upto.held _
theorem Bnd.new (k : Nat) : Bnd (newC 21 k) (fun _ => 0) 0 k :=
  ⟨rfl, List.length_replicate, Upto.new _ _, Unlike.new _ _, Idle.new _ _, Paged.new _ _, fun _ => Nat.le_zero.1 (heldF_le (Upto.new 21 k).held _)⟩
theorem Bnd.ok {c : CS} {S : Nat → Nat} {i k : Nat} (h : Bnd c S i k) {x : Nat} (he : (holdR c (x : Int)).2.2 = 0) : Bnd (holdR c (x : Int)).1 (put S x (S x + 1)) (i + 1) k :=
  ⟨by rw [holdR_n]; exact h.n, by rw [holdR_length]; exact h.len, h.upto.hold _, h.unlike.hold _, h.idle.hold _, paged_n h.paged, fun p => by
    rw [heldF_hold h.unlike (fun f hf he => h.idle f hf he) _ (by omega), h.held p]
    unfold put
    by_cases e : x = p
    · subst e
      rw [if_pos ⟨rfl, he⟩, if_pos rfl]
    · rw [if_neg (fun h => e (by omega)), if_neg e]
      rfl⟩
theorem Bnd.no {c : CS} {S : Nat → Nat} {i k : Nat} (h : Bnd c S i k) {x : Nat} (he : (holdR c (x : Int)).2.2 ≠ 0) : Bnd (holdR c (x : Int)).1 S (i + 1) k :=
  ⟨by rw [holdR_n]; exact h.n, by rw [holdR_length]; exact h.len, h.upto.hold _, h.unlike.hold _, h.idle.hold _, paged_n h.paged, fun p => by
    rw [heldF_hold h.unlike (fun f hf he => h.idle f hf he) _ (by omega), h.held p, if_neg (fun h => he h.2)]
    rfl⟩
theorem Bnd.drop {c : CS} {S : Nat → Nat} {i k : Nat} (h : Bnd c S i k) (x : Nat) : (dropR c (x : Int)).2 = decide (0 < S x) ∧ Bnd (dropR c (x : Int)).1 (put S x (S x - 1)) (i + 1) k := by
  refine ⟨?_, by rw [(dropR_rest _ _).1]; exact h.n, by rw [dropR_length]; exact h.len, ?_, h.unlike.drop _, h.idle.drop _, ?_, fun p => ?_⟩
  · by_cases e : 0 < S x
    · rw [decide_eq_true e]
      exact drop_true (by omega) (by rw [h.held x]; exact e)
    · rw [decide_eq_false e]
      unfold dropR
      rw [if_pos (.inr (by rw [h.held x]; omega))]
  · have := h.upto.drop (x : Int)
    exact ⟨fun f hf => by have := this.held f hf; omega, by have := this.hits; omega, by have := this.misses; omega⟩
  · rw [(dropR_rest _ _).1]
    exact h.paged.drop _
  · rw [heldF_drop h.unlike _ (by omega), h.held p]
    unfold put
    by_cases e : x = p
    · subst e
      rw [if_pos rfl, if_pos rfl]
    · rw [if_neg (fun h => e (by omega)), if_neg e]
      rfl
theorem Bnd.pins {c : CS} {S : Nat → Nat} {i k : Nat} (h : Bnd c S i k) : pinnedN c.F = (List.range 21).countP fun p => decide (0 < S p) := by
  have hp := h.paged
  rw [h.n] at hp
  rw [pinned_pages 21 c.F h.unlike h.idle hp]
  congr 1
  funext p
  rw [h.held p]
theorem Bnd.few {c : CS} {S : Nat → Nat} {i k : Nat} (h : Bnd c S i k) : heldN c.F ≤ k ∧ pinnedN c.F ≤ k := by
  rw [← h.len]
  exact ⟨List.countP_le_length, List.countP_le_length⟩
theorem Bnd.has {c : CS} {S : Nat → Nat} {i k : Nat} (h : Bnd c S i k) {p : Nat} (hp : 0 < S p) : hasR c (p : Int) = true := by
  unfold hasR
  rw [held_there (by rw [h.held p]; exact hp)]
  simp
theorem count_next (q : Nat → Bool) (j : Nat) : (List.range (j + 1)).countP q = (List.range j).countP q + if q j = true then 1 else 0 := by
  rw [List.range_succ, List.countP_append]
  simp [List.countP_cons]
theorem size21 : (Tryd.prog.info? 48).map (·.size) = some 21 := by kernel_rfl
theorem idx21 (S : Nat → Nat) (j : Nat) (hj : j < 21) (w : World) : (Instr.index 48 (.agg (scel S 21).toArray) (.int .i64 (j : Int))).run Tryd.prog w = .ok (.int .i64 ((S j : Nat) : Int)) w := by
  have h := scel_at S 21 j hj
  generalize scel S 21 = cs at h
  have h1 : (0 : Int) ≤ (j : Int) ∧ (j : Int) < 21 := by omega
  simp [Instr.index, run_underlying Tryd.underlying48, asIntOf, go_sem, h1, hj, h]
theorem scel_length (S : Nat → Nat) (n : Nat) : (scel S n).length = n := by unfold scel; simp

set_option maxRecDepth 100000 in
set_option maxHeartbeats 6400000 in
theorem walk (a : Int) (A : Option Addr) (n c : Nat) (V : Nat → Int) (w : World) (_ : (Lit.int .i64 a).wf = true) (_ : n ≤ maxLen) (_ : A = none → n = 0 ∧ c = 0) (ho : Its w w.heap.size A n V) (ht : Tabs w) :
    Calls Tryd.prog 4 #[.int .i64 a, .slice A n c] w fun e w' => e = .returned (.bool true) ∧ Below w.heap.size w w' := by
  have HF := Lib.hid (first_any w ht)
  have HT := Lib.hid ht
  have HO := Lib.hid ho
  obtain ⟨k, hk, hk1, hk6⟩ : ∃ k : Nat, wrap64 (1 + wrap64 ((IntKind.u64.wrap a).tmod 6)) = (k : Int) ∧ 1 ≤ k ∧ k ≤ 6 := by
    obtain ⟨j, hj, hj6⟩ := turn_n a 6 (by decide) (by decide)
    have hj' : wrap64 ((IntKind.u64.wrap a).tmod 6) = (j : Int) := hj
    refine ⟨j + 1, ?_, by omega, by omega⟩
    rw [hj']
    unfold wrap64
    omega
  have HK := Lib.hid hk
  clear ht ho hk
  go_enter Tryd.func4, Tryd.ntmps4
  go_wp2_with fail
  refine HF.out.mono ?_
  rintro e w0 ⟨rfl, hb0⟩
  have HMa := Lib.hid (made_any 20 (by decide) (k : Int) w0 (HT.out.keep hb0))
  clear HF
  go_wp2_with fail
  rw [HK.out]
  refine HMa.out.mono ?_
  rintro e w1 ⟨hm, _, hb1⟩
  obtain ⟨v0, f0, L, rfl, hC0, hl0, _⟩ := hm (by omega)
  rw [Int.toNat_natCast, show (20 + 1 : Nat) = 21 from rfl] at hC0
  have hB1 := hb0.trans (hb1.mono hb0.size)
  obtain ⟨av, rfl⟩ := hC0.ptr
  have HBn : Hid (Bnd (newC 21 k) (fun _ => 0) 0 k) := Lib.hid (Bnd.new k)
  have hl1 : ∀ j, f0 j → w.heap.size ≤ j := fun j h => Nat.le_trans hb0.size (hl0 j h)
  generalize newC 21 k = c0 at hC0 HBn
  clear hm HMa hl0 hb1 HK
  go_upto_block 0 with (fail)
  have hLz : Lies (w1.alloc (.cells (scel (fun _ => 0) 21).toArray 48)) w1.heap.size 48 (scel (fun _ => 0) 21) := lies_new w1 _ _
  have hbx : Below w1.heap.size w1 (w1.alloc (.cells (scel (fun _ => 0) 21).toArray 48)) := (Below.refl _ _).alloc (Nat.le_refl _) _
  have HC1 := Lib.hid (hC0.keep hbx)
  have hnb : ¬ f0 w1.heap.size := fun h => Nat.lt_irrefl _ (hC0.lt h)
  have hBA : Below w.heap.size w (w1.alloc (.cells (scel (fun _ => 0) 21).toArray 48)) := hB1.alloc hB1.size _
  have hgb := hB1.size
  change Code.wp _ _ _ _ (w1.alloc (.cells (scel (fun _ => 0) 21).toArray 48))
  generalize w1.alloc (.cells (scel (fun _ => 0) 21).toArray 48) = wl at hLz HC1 hBA hbx ⊢
  generalize w1.heap.size = gb at hLz hnb hgb hbx ⊢
  clear hC0 hB1 hbx
  go_cut [] (fun wx => Below w.heap.size w wx)
  case first =>
    go_wp2_with fail
    go_loopw [35] (fun v wr => ∃ (i : Nat) (p : CS) (fp : Nat → Prop) (S : Nat → Nat), i ≤ n ∧ i ≤ 120 ∧ v = .int .i64 (i : Int) ∧ Hid (Bnd p S i k) ∧ Hid (CacAt fp wr (.pointer (some av)) p L) ∧ Hid (∀ j, fp j → w.heap.size ≤ j) ∧ Hid (¬ fp gb) ∧ Hid (Lies wr gb 48 (scel S 21)) ∧ Below w.heap.size w wr) (fun v _ => n - (intOf v).toNat)
    case atStart => exact ⟨0, c0, f0, fun _ => 0, Nat.zero_le _, Nat.zero_le _, rfl, HBn, HC1, Lib.hid hl1, Lib.hid hnb, Lib.hid hLz, hBA⟩
    case round =>
      clear HBn HC1 hl1 hnb hLz hBA
      obtain ⟨i, p, fp, S, hin, hi120, rfl, hbn, hC, hlow, hng, hS, hB⟩ := hrel
      by_cases hlt : i < n
      · obtain ⟨ad, rfl, had, hV, hVr1, hVr2⟩ := (HO.out.below hB) i hlt
        have hgbl := hS.out.lt
        by_cases h120 : i < 120
        · obtain ⟨x, hx, hx21⟩ := turn_n (V i) 21 (by decide) (by decide)
          have hx' : wrap64 ((IntKind.u64.wrap (V i)).tmod 21) = (x : Int) := hx
          have HX := Lib.hid hx'
          have hx21i : (x : Int) < 21 := by omega
          have hSx := hbn.out.le x
          have hcalm : Calm p := hbn.out.upto.calm (by omega) (by rw [hbn.out.n]; omega)
          have HCalm := Lib.hid hcalm
          clear hx hx' hcalm
          go_upto_region 12 with (fail)
          · rw [HX.out]
            obtain ⟨hd1, hd2⟩ := hbn.out.drop x
            have HD := Lib.hid hd2
            obtain ⟨wD, hwD⟩ : ∃ W, wr.drew = W := ⟨_, rfl⟩
            have hCD : CacAt fp wD (.pointer (some av)) p L := by rw [← hwD]; exact hC.out.keepOn (Nat.le_refl _) fun _ _ => rfl
            have hSD : Lies wD gb 48 (scel S 21) := by rw [← hwD]; exact hS.out
            have hBD : Below w.heap.size w wD := by rw [← hwD]; exact below_drew' hB
            have q0 : wD.cell? ⟨gb, x, none⟩ = some (.int .i64 ((S x : Nat) : Int)) := (hSD.cell x).trans (scel_at S 21 x hx21)
            have H1 := Lib.hid (atDrop hCD HCalm.out (x : Int))
            rw [hd1] at H1
            have HSD := Lib.hid hSD
            clear hd1 hd2 hCD hSD
            go_cut [58] (fun s58 wx => s58 = .bool false ∧ Hid (CacAt fp wx (.pointer (some av)) (dropR p (x : Int)).1 L) ∧ Hid (Lies wx gb 48 (scel S 21)) ∧ Below w.heap.size w wx)
            case first =>
              obtain ⟨dz, hdz, hdz2, H1⟩ : ∃ dz, decide (0 < S x) = dz ∧ decide (0 < ((S x : Nat) : Int)) = dz ∧ Hid (Calls Tryd.prog 12 #[.pointer (some av), .int .i64 (x : Int)] wD fun e w' => e = .returned (.bool dz) ∧ CacAt fp w' (.pointer (some av)) (dropR p (x : Int)).1 L ∧ Only fp wD w') := ⟨_, rfl, by simp, H1⟩
              cases dz
              all_goals
               go_region_with ((go_at_call 12; (with_reducible refine H1.out.mono ?_); rintro e w3 ⟨rfl, hc3, ho3⟩; have hS3 : Lies w3 gb 48 (scel S 21) := HSD.out.same (ho3.block gb HSD.out.lt hng.out); have q3 : w3.cell? ⟨gb, x, none⟩ = some (.int .i64 ((S x : Nat) : Int)) := (hS3.cell x).trans (scel_at S 21 x hx21); have HC3 := Lib.hid hc3; have HS3 := Lib.hid hS3; have HB3 := Lib.hid (hBD.trans (ho3.below hBD.size hlow.out)); clear hc3 hS3 ho3))
              all_goals
                go_wp2_with fail
                go_meet
                exact ⟨rfl, HC3, HS3, HB3.out⟩
            case rest =>
              obtain ⟨rfl, HCc, HSc, hBc⟩ := hcut
              have q4 : wc.cell? ⟨gb, x, none⟩ = some (.int .i64 ((S x : Nat) : Int)) := (HSc.out.cell x).trans (scel_at S 21 x hx21)
              have q5 := HSc.out.free x
              obtain ⟨wj, hwj⟩ : ∃ W, wc.setCell ⟨gb, x, none⟩ (.int .i64 ((S x - 1 : Nat) : Int)) = W := ⟨_, rfl⟩
              obtain ⟨Sj, hSj⟩ : ∃ T, put S x (S x - 1) = T := ⟨_, rfl⟩
              have HSj : Hid (Lies wj gb 48 (scel Sj 21)) := Lib.hid (by
                have h := HSc.out.put x (.int .i64 ((S x - 1 : Nat) : Int))
                rw [scel_set] at h
                rw [← hwj, ← hSj]
                exact h)
              have HCj : Hid (CacAt fp wj (.pointer (some av)) (dropR p (x : Int)).1 L) := Lib.hid (by rw [← hwj]; exact HCc.out.far hng.out _)
              have hBj : Below w.heap.size w wj := by rw [← hwj]; exact hBc.setCell hgb _
              have HBn := HD
              rw [hSj] at HBn
              have Hlj := hlow
              have Hnj := hng
              obtain ⟨fpj, hfpj⟩ : ∃ T, fp = T := ⟨_, rfl⟩
              rw [hfpj] at HCj Hlj Hnj
              generalize (dropR p (x : Int)).1 = cj at HCj HBn
              clear HD q0 H1 HSD hBD hwD HCc HSc hBc hbn hC hS hB hSj hng hlow hfpj
              by_cases hs0 : S x = 0
              · rw [hs0] at q4 hwj
                have hwj0 : wc.setCell ⟨gb, x, none⟩ (.int .i64 0) = wj := hwj
                clear hwj
                have HRg : Hid (wj.rangeAt gb 0 (scel Sj 21)) := Lib.hid fun j v hj => by
                  rw [Nat.zero_add, HSj.out.cell]
                  exact hj
                have hbsj := hBj.size
                go_wp2_with (refine wpList_load_mid rfl 48 (.tmp 7) rfl gb 0 rfl (scel Sj 21) _ HRg.out Tryd.underlying48 rfl (by rw [scel_length]; exact size21) ?_)
                go_loopw [14, 81] (fun s14 v wy => ∃ j m : Nat, j ≤ 21 ∧ m ≤ j ∧ s14 = .int .i64 (m : Int) ∧ v = .int .i64 (j : Int) ∧ Hid (m = (List.range j).countP fun p => decide (0 < Sj p)) ∧ Below wj.heap.size wj wy) (fun _ v _ => 21 - (intOf v).toNat)
                case atStart => exact ⟨0, 0, Nat.zero_le _, Nat.le_refl _, rfl, rfl, Lib.hid rfl, Below.refl _ _⟩
                case round =>
                  rename World => wy
                  obtain ⟨j, m, hj21, hmj, rfl, rfl, hm, hby⟩ := hrel
                  by_cases hjl : j < 21
                  · have hji : (j : Int) < 21 := by omega
                    have hat := idx21 Sj j hjl
                    by_cases hy : 0 < Sj j
                    · have hh := HBn.out.has hy
                      have HHas := Lib.hid (atHas (HCj.out.keep hby) (j : Int))
                      rw [hh] at HHas
                      have hz : decide (0 < ((Sj j : Nat) : Int)) = true := by simp; omega
                      have hz2 : decide (0 < Sj j) = true := by simp; omega
                      have HM : Hid (m + 1 = (List.range (j + 1)).countP fun p => decide (0 < Sj p)) := Lib.hid (by rw [count_next, hm.out, hz2]; rfl)
                      clear hh hm
                      go_wp2_with fail
                      refine HHas.out.mono ?_
                      rintro e w8 ⟨rfl, hb8⟩
                      have hby8 := hby.trans (hb8.mono hby.size)
                      clear hb8 HHas
                      go_wp2_with fail
                      go_roundw
                      case rel => exact ⟨j + 1, m + 1, by omega, by omega, by go_num, by go_num, HM, hby8⟩
                      case measure => simp [intOf]; omega
                    · have hz : decide (0 < ((Sj j : Nat) : Int)) = false := by simp; omega
                      have hz2 : decide (0 < Sj j) = false := by simp; omega
                      have HM : Hid (m = (List.range (j + 1)).countP fun p => decide (0 < Sj p)) := Lib.hid (by rw [count_next, hm.out, hz2]; rfl)
                      clear hm
                      go_wp2_with fail
                      go_roundw
                      case rel => exact ⟨j + 1, m, by omega, by omega, rfl, by go_num, HM, hby⟩
                      case measure => simp [intOf]; omega
                  · obtain rfl : j = 21 := by omega
                    have hBy := hBj.trans (hby.mono hBj.size)
                    have HSt := Lib.hid (atStats (HCj.out.keep hby))
                    unfold statsV at HSt
                    obtain ⟨hfh, hfp⟩ := HBn.out.few
                    have hpm : pinnedN cj.F = m := by rw [HBn.out.pins, hm.out]
                    rw [hpm] at HSt hfp
                    have h1 : decide ((k : Int) < (heldN cj.F : Int)) = false := by simp; omega
                    have h2 : decide ((k : Int) < (m : Int)) = false := by simp; omega
                    have h3 : decide (k < heldN cj.F) = false := by simp; omega
                    have h4 : decide (k < m) = false := by simp; omega
                    have HCy := Lib.hid (HCj.out.keep hby)
                    have HSy := Lib.hid (HSj.out.below hby HSj.out.lt)
                    generalize heldN cj.F = hN at HSt h1 h3 hfh
                    clear hpm hm
                    go_wp2_with fail
                    refine HSt.out.mono ?_
                    rintro e w9 ⟨rfl, hb9⟩
                    have hB9 := hBy.trans (hb9.mono hBy.size)
                    have HC9 := Lib.hid (HCy.out.keep hb9)
                    have HS9 := Lib.hid (HSy.out.below hb9 HSy.out.lt)
                    clear HSt hb9 HCy HSy
                    go_wp2_with fail
                    go_roundw
                    case rel => exact ⟨i + 1, cj, fpj, Sj, by omega, by omega, by go_num, HBn, Lib.hid (HC9.out.keep ((Below.refl _ _).alloc (Nat.le_refl _) _)), Hlj, Hnj, Lib.hid (HS9.out.alloc _), hB9.alloc hB9.size _⟩
                    case measure => simp [intOf]; omega
              · by_cases hs1 : S x = 1
                · rw [hs1] at q4 hwj
                  have hwj0 : wc.setCell ⟨gb, x, none⟩ (.int .i64 0) = wj := hwj
                  clear hwj
                  have HRg : Hid (wj.rangeAt gb 0 (scel Sj 21)) := Lib.hid fun j v hj => by
                    rw [Nat.zero_add, HSj.out.cell]
                    exact hj
                  have hbsj := hBj.size
                  go_wp2_with (refine wpList_load_mid rfl 48 (.tmp 7) rfl gb 0 rfl (scel Sj 21) _ HRg.out Tryd.underlying48 rfl (by rw [scel_length]; exact size21) ?_)
                  go_loopw [14, 81] (fun s14 v wy => ∃ j m : Nat, j ≤ 21 ∧ m ≤ j ∧ s14 = .int .i64 (m : Int) ∧ v = .int .i64 (j : Int) ∧ Hid (m = (List.range j).countP fun p => decide (0 < Sj p)) ∧ Below wj.heap.size wj wy) (fun _ v _ => 21 - (intOf v).toNat)
                  case atStart => exact ⟨0, 0, Nat.zero_le _, Nat.le_refl _, rfl, rfl, Lib.hid rfl, Below.refl _ _⟩
                  case round =>
                    rename World => wy
                    obtain ⟨j, m, hj21, hmj, rfl, rfl, hm, hby⟩ := hrel
                    by_cases hjl : j < 21
                    · have hji : (j : Int) < 21 := by omega
                      have hat := idx21 Sj j hjl
                      by_cases hy : 0 < Sj j
                      · have hh := HBn.out.has hy
                        have HHas := Lib.hid (atHas (HCj.out.keep hby) (j : Int))
                        rw [hh] at HHas
                        have hz : decide (0 < ((Sj j : Nat) : Int)) = true := by simp; omega
                        have hz2 : decide (0 < Sj j) = true := by simp; omega
                        have HM : Hid (m + 1 = (List.range (j + 1)).countP fun p => decide (0 < Sj p)) := Lib.hid (by rw [count_next, hm.out, hz2]; rfl)
                        clear hh hm
                        go_wp2_with fail
                        refine HHas.out.mono ?_
                        rintro e w8 ⟨rfl, hb8⟩
                        have hby8 := hby.trans (hb8.mono hby.size)
                        clear hb8 HHas
                        go_wp2_with fail
                        go_roundw
                        case rel => exact ⟨j + 1, m + 1, by omega, by omega, by go_num, by go_num, HM, hby8⟩
                        case measure => simp [intOf]; omega
                      · have hz : decide (0 < ((Sj j : Nat) : Int)) = false := by simp; omega
                        have hz2 : decide (0 < Sj j) = false := by simp; omega
                        have HM : Hid (m = (List.range (j + 1)).countP fun p => decide (0 < Sj p)) := Lib.hid (by rw [count_next, hm.out, hz2]; rfl)
                        clear hm
                        go_wp2_with fail
                        go_roundw
                        case rel => exact ⟨j + 1, m, by omega, by omega, rfl, by go_num, HM, hby⟩
                        case measure => simp [intOf]; omega
                    · obtain rfl : j = 21 := by omega
                      have hBy := hBj.trans (hby.mono hBj.size)
                      have HSt := Lib.hid (atStats (HCj.out.keep hby))
                      unfold statsV at HSt
                      obtain ⟨hfh, hfp⟩ := HBn.out.few
                      have hpm : pinnedN cj.F = m := by rw [HBn.out.pins, hm.out]
                      rw [hpm] at HSt hfp
                      have h1 : decide ((k : Int) < (heldN cj.F : Int)) = false := by simp; omega
                      have h2 : decide ((k : Int) < (m : Int)) = false := by simp; omega
                      have h3 : decide (k < heldN cj.F) = false := by simp; omega
                      have h4 : decide (k < m) = false := by simp; omega
                      have HCy := Lib.hid (HCj.out.keep hby)
                      have HSy := Lib.hid (HSj.out.below hby HSj.out.lt)
                      generalize heldN cj.F = hN at HSt h1 h3 hfh
                      clear hpm hm
                      go_wp2_with fail
                      refine HSt.out.mono ?_
                      rintro e w9 ⟨rfl, hb9⟩
                      have hB9 := hBy.trans (hb9.mono hBy.size)
                      have HC9 := Lib.hid (HCy.out.keep hb9)
                      have HS9 := Lib.hid (HSy.out.below hb9 HSy.out.lt)
                      clear HSt hb9 HCy HSy
                      go_wp2_with fail
                      go_roundw
                      case rel => exact ⟨i + 1, cj, fpj, Sj, by omega, by omega, by go_num, HBn, Lib.hid (HC9.out.keep ((Below.refl _ _).alloc (Nat.le_refl _) _)), Hlj, Hnj, Lib.hid (HS9.out.alloc _), hB9.alloc hB9.size _⟩
                      case measure => simp [intOf]; omega
                · obtain ⟨y, hy⟩ : ∃ y, S x = y + 2 := ⟨S x - 2, by omega⟩
                  rw [hy] at q4 hwj
                  have hwj0 : wc.setCell ⟨gb, x, none⟩ (.int .i64 ((y : Int) + 1)) = wj := hwj
                  have hq1 : (0 : Int) < (y : Int) + 1 := by omega
                  have hq2 : decide ((0 : Int) < (y : Int) + 1) = true := decide_eq_true hq1
                  have hyw : IntKind.i64.wrap ((y : Int) + 2 - 1) = (y : Int) + 1 := by rw [IntWalk.i64_in _ (by omega)]; omega
                  have q6 : wc.cell? ⟨gb, x, none⟩ = some (.int .i64 ((y : Int) + 2)) := q4
                  clear hwj q4
                  have HRg : Hid (wj.rangeAt gb 0 (scel Sj 21)) := Lib.hid fun j v hj => by
                    rw [Nat.zero_add, HSj.out.cell]
                    exact hj
                  have hbsj := hBj.size
                  go_wp2_with (refine wpList_load_mid rfl 48 (.tmp 7) rfl gb 0 rfl (scel Sj 21) _ HRg.out Tryd.underlying48 rfl (by rw [scel_length]; exact size21) ?_)
                  go_loopw [14, 81] (fun s14 v wy => ∃ j m : Nat, j ≤ 21 ∧ m ≤ j ∧ s14 = .int .i64 (m : Int) ∧ v = .int .i64 (j : Int) ∧ Hid (m = (List.range j).countP fun p => decide (0 < Sj p)) ∧ Below wj.heap.size wj wy) (fun _ v _ => 21 - (intOf v).toNat)
                  case atStart => exact ⟨0, 0, Nat.zero_le _, Nat.le_refl _, rfl, rfl, Lib.hid rfl, Below.refl _ _⟩
                  case round =>
                    rename World => wy
                    obtain ⟨j, m, hj21, hmj, rfl, rfl, hm, hby⟩ := hrel
                    by_cases hjl : j < 21
                    · have hji : (j : Int) < 21 := by omega
                      have hat := idx21 Sj j hjl
                      by_cases hy : 0 < Sj j
                      · have hh := HBn.out.has hy
                        have HHas := Lib.hid (atHas (HCj.out.keep hby) (j : Int))
                        rw [hh] at HHas
                        have hz : decide (0 < ((Sj j : Nat) : Int)) = true := by simp; omega
                        have hz2 : decide (0 < Sj j) = true := by simp; omega
                        have HM : Hid (m + 1 = (List.range (j + 1)).countP fun p => decide (0 < Sj p)) := Lib.hid (by rw [count_next, hm.out, hz2]; rfl)
                        clear hh hm
                        go_wp2_with fail
                        refine HHas.out.mono ?_
                        rintro e w8 ⟨rfl, hb8⟩
                        have hby8 := hby.trans (hb8.mono hby.size)
                        clear hb8 HHas
                        go_wp2_with fail
                        go_roundw
                        case rel => exact ⟨j + 1, m + 1, by omega, by omega, by go_num, by go_num, HM, hby8⟩
                        case measure => simp [intOf]; omega
                      · have hz : decide (0 < ((Sj j : Nat) : Int)) = false := by simp; omega
                        have hz2 : decide (0 < Sj j) = false := by simp; omega
                        have HM : Hid (m = (List.range (j + 1)).countP fun p => decide (0 < Sj p)) := Lib.hid (by rw [count_next, hm.out, hz2]; rfl)
                        clear hm
                        go_wp2_with fail
                        go_roundw
                        case rel => exact ⟨j + 1, m, by omega, by omega, rfl, by go_num, HM, hby⟩
                        case measure => simp [intOf]; omega
                    · obtain rfl : j = 21 := by omega
                      have hBy := hBj.trans (hby.mono hBj.size)
                      have HSt := Lib.hid (atStats (HCj.out.keep hby))
                      unfold statsV at HSt
                      obtain ⟨hfh, hfp⟩ := HBn.out.few
                      have hpm : pinnedN cj.F = m := by rw [HBn.out.pins, hm.out]
                      rw [hpm] at HSt hfp
                      have h1 : decide ((k : Int) < (heldN cj.F : Int)) = false := by simp; omega
                      have h2 : decide ((k : Int) < (m : Int)) = false := by simp; omega
                      have h3 : decide (k < heldN cj.F) = false := by simp; omega
                      have h4 : decide (k < m) = false := by simp; omega
                      have HCy := Lib.hid (HCj.out.keep hby)
                      have HSy := Lib.hid (HSj.out.below hby HSj.out.lt)
                      generalize heldN cj.F = hN at HSt h1 h3 hfh
                      clear hpm hm
                      go_wp2_with fail
                      refine HSt.out.mono ?_
                      rintro e w9 ⟨rfl, hb9⟩
                      have hB9 := hBy.trans (hb9.mono hBy.size)
                      have HC9 := Lib.hid (HCy.out.keep hb9)
                      have HS9 := Lib.hid (HSy.out.below hb9 HSy.out.lt)
                      clear HSt hb9 HCy HSy
                      go_wp2_with fail
                      go_roundw
                      case rel => exact ⟨i + 1, cj, fpj, Sj, by omega, by omega, by go_num, HBn, Lib.hid (HC9.out.keep ((Below.refl _ _).alloc (Nat.le_refl _) _)), Hlj, Hnj, Lib.hid (HS9.out.alloc _), hB9.alloc hB9.size _⟩
                      case measure => simp [intOf]; omega
          · have HH := Lib.hid (lowHold hC.out HCalm.out hB.size hlow.out (x : Int))
            rw [HX.out]
            refine HH.out.mono ?_
            rintro e w2 ⟨fp2, u, rfl, hc2, hl2, hsub, hon, hb2, _, _⟩
            have hwr2 := hon.size
            have hB2 := hB.trans hb2
            have hS2 : Lies w2 gb 48 (scel S 21) := hS.out.same (hon.block gb hgbl hng.out)
            have hng2 : ¬ fp2 gb := fun h => (hsub gb h).elim hng.out (fun h => by omega)
            obtain ⟨er, her⟩ : ∃ er, (holdR p (x : Int)).2.2 = er := ⟨_, rfl⟩
            rw [her]
            by_cases he : er = 0
            · subst he
              have HBn := Lib.hid (hbn.out.ok her)
              have q4 : w2.cell? ⟨gb, x, none⟩ = some (.int .i64 ((S x : Nat) : Int)) := (hS2.cell x).trans (scel_at S 21 x hx21)
              have q5 := hS2.free x
              have hw1 : IntKind.i64.wrap (((S x : Nat) : Int) + 1) = ((S x : Nat) : Int) + 1 := IntWalk.i64_in _ (by omega)
              obtain ⟨wj, hwj⟩ : ∃ W, w2.setCell ⟨gb, x, none⟩ (.int .i64 (((S x : Nat) : Int) + 1)) = W := ⟨_, rfl⟩
              obtain ⟨Sj, hSj⟩ : ∃ T, put S x (S x + 1) = T := ⟨_, rfl⟩
              have HSj : Hid (Lies wj gb 48 (scel Sj 21)) := Lib.hid (by
                have h := hS2.put x (.int .i64 ((S x + 1 : Nat) : Int))
                rw [scel_set] at h
                rw [← hwj, ← hSj]
                exact h)
              have HCj : Hid (CacAt fp2 wj (.pointer (some av)) (holdR p (x : Int)).1 L) := Lib.hid (by rw [← hwj]; exact hc2.far hng2 _)
              have hBj : Below w.heap.size w wj := by rw [← hwj]; exact hB2.setCell hgb _
              rw [hSj] at HBn
              have Hlj := Lib.hid hl2
              have Hnj := Lib.hid hng2
              obtain ⟨fpj, hfpj⟩ : ∃ T, fp2 = T := ⟨_, rfl⟩
              rw [hfpj] at HCj Hlj Hnj
              generalize (holdR p (x : Int)).1 = cj at HCj HBn
              generalize (holdR p (x : Int)).2.1 = hit
              clear HH hc2 hl2 hsub hon hb2 hS2 hng2 her hbn hC hS hB hB2 hng hlow hSj hfpj
              have HRg : Hid (wj.rangeAt gb 0 (scel Sj 21)) := Lib.hid fun j v hj => by
                rw [Nat.zero_add, HSj.out.cell]
                exact hj
              have hbsj := hBj.size
              go_wp2_with (refine wpList_load_mid rfl 48 (.tmp 7) rfl gb 0 rfl (scel Sj 21) _ HRg.out Tryd.underlying48 rfl (by rw [scel_length]; exact size21) ?_)
              go_loopw [14, 81] (fun s14 v wy => ∃ j m : Nat, j ≤ 21 ∧ m ≤ j ∧ s14 = .int .i64 (m : Int) ∧ v = .int .i64 (j : Int) ∧ Hid (m = (List.range j).countP fun p => decide (0 < Sj p)) ∧ Below wj.heap.size wj wy) (fun _ v _ => 21 - (intOf v).toNat)
              case atStart => exact ⟨0, 0, Nat.zero_le _, Nat.le_refl _, rfl, rfl, Lib.hid rfl, Below.refl _ _⟩
              case round =>
                rename World => wy
                obtain ⟨j, m, hj21, hmj, rfl, rfl, hm, hby⟩ := hrel
                by_cases hjl : j < 21
                · have hji : (j : Int) < 21 := by omega
                  have hat := idx21 Sj j hjl
                  by_cases hy : 0 < Sj j
                  · have hh := HBn.out.has hy
                    have HHas := Lib.hid (atHas (HCj.out.keep hby) (j : Int))
                    rw [hh] at HHas
                    have hz : decide (0 < ((Sj j : Nat) : Int)) = true := by simp; omega
                    have hz2 : decide (0 < Sj j) = true := by simp; omega
                    have HM : Hid (m + 1 = (List.range (j + 1)).countP fun p => decide (0 < Sj p)) := Lib.hid (by rw [count_next, hm.out, hz2]; rfl)
                    clear hh hm
                    go_wp2_with fail
                    refine HHas.out.mono ?_
                    rintro e w8 ⟨rfl, hb8⟩
                    have hby8 := hby.trans (hb8.mono hby.size)
                    clear hb8 HHas
                    go_wp2_with fail
                    go_roundw
                    case rel => exact ⟨j + 1, m + 1, by omega, by omega, by go_num, by go_num, HM, hby8⟩
                    case measure => simp [intOf]; omega
                  · have hz : decide (0 < ((Sj j : Nat) : Int)) = false := by simp; omega
                    have hz2 : decide (0 < Sj j) = false := by simp; omega
                    have HM : Hid (m = (List.range (j + 1)).countP fun p => decide (0 < Sj p)) := Lib.hid (by rw [count_next, hm.out, hz2]; rfl)
                    clear hm
                    go_wp2_with fail
                    go_roundw
                    case rel => exact ⟨j + 1, m, by omega, by omega, rfl, by go_num, HM, hby⟩
                    case measure => simp [intOf]; omega
                · obtain rfl : j = 21 := by omega
                  have hBy := hBj.trans (hby.mono hBj.size)
                  have HSt := Lib.hid (atStats (HCj.out.keep hby))
                  unfold statsV at HSt
                  obtain ⟨hfh, hfp⟩ := HBn.out.few
                  have hpm : pinnedN cj.F = m := by rw [HBn.out.pins, hm.out]
                  rw [hpm] at HSt hfp
                  have h1 : decide ((k : Int) < (heldN cj.F : Int)) = false := by simp; omega
                  have h2 : decide ((k : Int) < (m : Int)) = false := by simp; omega
                  have h3 : decide (k < heldN cj.F) = false := by simp; omega
                  have h4 : decide (k < m) = false := by simp; omega
                  have HCy := Lib.hid (HCj.out.keep hby)
                  have HSy := Lib.hid (HSj.out.below hby HSj.out.lt)
                  generalize heldN cj.F = hN at HSt h1 h3 hfh
                  clear hpm hm
                  go_wp2_with fail
                  refine HSt.out.mono ?_
                  rintro e w9 ⟨rfl, hb9⟩
                  have hB9 := hBy.trans (hb9.mono hBy.size)
                  have HC9 := Lib.hid (HCy.out.keep hb9)
                  have HS9 := Lib.hid (HSy.out.below hb9 HSy.out.lt)
                  clear HSt hb9 HCy HSy
                  go_wp2_with fail
                  go_roundw
                  case rel => exact ⟨i + 1, cj, fpj, Sj, by omega, by omega, by go_num, HBn, Lib.hid (HC9.out.keep ((Below.refl _ _).alloc (Nat.le_refl _) _)), Hlj, Hnj, Lib.hid (HS9.out.alloc _), hB9.alloc hB9.size _⟩
                  case measure => simp [intOf]; omega
            · have HBn := Lib.hid (hbn.out.no (by rw [her]; exact he))
              have hez : (((er : Nat) : Int) == 0) = false := by rw [beq_eq_false_iff_ne]; omega
              obtain ⟨wj, hwj⟩ : ∃ W, w2 = W := ⟨_, rfl⟩
              obtain ⟨Sj, hSj⟩ : ∃ T, S = T := ⟨_, rfl⟩
              obtain ⟨fpj, hfpj⟩ : ∃ T, fp2 = T := ⟨_, rfl⟩
              have HSj : Hid (Lies wj gb 48 (scel Sj 21)) := Lib.hid (by rw [← hwj, ← hSj]; exact hS2)
              have HCj : Hid (CacAt fpj wj (.pointer (some av)) (holdR p (x : Int)).1 L) := Lib.hid (by rw [← hwj, ← hfpj]; exact hc2)
              have hBj : Below w.heap.size w wj := by rw [← hwj]; exact hB2
              have Hlj := Lib.hid hl2
              have Hnj := Lib.hid hng2
              rw [hfpj] at Hlj Hnj
              rw [hSj] at HBn
              rw [hwj]
              generalize (holdR p (x : Int)).1 = cj at HCj HBn
              generalize (holdR p (x : Int)).2.1 = hit
              clear HH hc2 hl2 hsub hon hb2 hS2 hng2 her hbn hC hS hB hB2 hng hlow hfpj he hwj
              have HRg : Hid (wj.rangeAt gb 0 (scel Sj 21)) := Lib.hid fun j v hj => by
                rw [Nat.zero_add, HSj.out.cell]
                exact hj
              have hbsj := hBj.size
              go_wp2_with (refine wpList_load_mid rfl 48 (.tmp 7) rfl gb 0 rfl (scel Sj 21) _ HRg.out Tryd.underlying48 rfl (by rw [scel_length]; exact size21) ?_)
              go_loopw [14, 81] (fun s14 v wy => ∃ j m : Nat, j ≤ 21 ∧ m ≤ j ∧ s14 = .int .i64 (m : Int) ∧ v = .int .i64 (j : Int) ∧ Hid (m = (List.range j).countP fun p => decide (0 < Sj p)) ∧ Below wj.heap.size wj wy) (fun _ v _ => 21 - (intOf v).toNat)
              case atStart => exact ⟨0, 0, Nat.zero_le _, Nat.le_refl _, rfl, rfl, Lib.hid rfl, Below.refl _ _⟩
              case round =>
                rename World => wy
                obtain ⟨j, m, hj21, hmj, rfl, rfl, hm, hby⟩ := hrel
                by_cases hjl : j < 21
                · have hji : (j : Int) < 21 := by omega
                  have hat := idx21 Sj j hjl
                  by_cases hy : 0 < Sj j
                  · have hh := HBn.out.has hy
                    have HHas := Lib.hid (atHas (HCj.out.keep hby) (j : Int))
                    rw [hh] at HHas
                    have hz : decide (0 < ((Sj j : Nat) : Int)) = true := by simp; omega
                    have hz2 : decide (0 < Sj j) = true := by simp; omega
                    have HM : Hid (m + 1 = (List.range (j + 1)).countP fun p => decide (0 < Sj p)) := Lib.hid (by rw [count_next, hm.out, hz2]; rfl)
                    clear hh hm
                    go_wp2_with fail
                    refine HHas.out.mono ?_
                    rintro e w8 ⟨rfl, hb8⟩
                    have hby8 := hby.trans (hb8.mono hby.size)
                    clear hb8 HHas
                    go_wp2_with fail
                    go_roundw
                    case rel => exact ⟨j + 1, m + 1, by omega, by omega, by go_num, by go_num, HM, hby8⟩
                    case measure => simp [intOf]; omega
                  · have hz : decide (0 < ((Sj j : Nat) : Int)) = false := by simp; omega
                    have hz2 : decide (0 < Sj j) = false := by simp; omega
                    have HM : Hid (m = (List.range (j + 1)).countP fun p => decide (0 < Sj p)) := Lib.hid (by rw [count_next, hm.out, hz2]; rfl)
                    clear hm
                    go_wp2_with fail
                    go_roundw
                    case rel => exact ⟨j + 1, m, by omega, by omega, rfl, by go_num, HM, hby⟩
                    case measure => simp [intOf]; omega
                · obtain rfl : j = 21 := by omega
                  have hBy := hBj.trans (hby.mono hBj.size)
                  have HSt := Lib.hid (atStats (HCj.out.keep hby))
                  unfold statsV at HSt
                  obtain ⟨hfh, hfp⟩ := HBn.out.few
                  have hpm : pinnedN cj.F = m := by rw [HBn.out.pins, hm.out]
                  rw [hpm] at HSt hfp
                  have h1 : decide ((k : Int) < (heldN cj.F : Int)) = false := by simp; omega
                  have h2 : decide ((k : Int) < (m : Int)) = false := by simp; omega
                  have h3 : decide (k < heldN cj.F) = false := by simp; omega
                  have h4 : decide (k < m) = false := by simp; omega
                  have HCy := Lib.hid (HCj.out.keep hby)
                  have HSy := Lib.hid (HSj.out.below hby HSj.out.lt)
                  generalize heldN cj.F = hN at HSt h1 h3 hfh
                  clear hpm hm
                  go_wp2_with fail
                  refine HSt.out.mono ?_
                  rintro e w9 ⟨rfl, hb9⟩
                  have hB9 := hBy.trans (hb9.mono hBy.size)
                  have HC9 := Lib.hid (HCy.out.keep hb9)
                  have HS9 := Lib.hid (HSy.out.below hb9 HSy.out.lt)
                  clear HSt hb9 HCy HSy
                  go_wp2_with fail
                  go_roundw
                  case rel => exact ⟨i + 1, cj, fpj, Sj, by omega, by omega, by go_num, HBn, Lib.hid (HC9.out.keep ((Below.refl _ _).alloc (Nat.le_refl _) _)), Hlj, Hnj, Lib.hid (HS9.out.alloc _), hB9.alloc hB9.size _⟩
                  case measure => simp [intOf]; omega

        · go_wp2_with fail
          go_meet
          exact hB
      · go_wp2_with fail
        go_meet
        exact hB
  case rest =>
    have HN1 := Lib.hid (nilHold 0 wc)
    go_wp2_with fail
    refine HN1.out.mono ?_
    rintro e w1 ⟨rfl, hb1⟩
    have hB1 := hcut.trans (hb1.mono hcut.size)
    have HN2 := Lib.hid (cacheNew_nil 1 w1)
    clear HN1
    go_wp2_with fail
    refine HN2.out.mono ?_
    rintro e w2 ⟨rfl, hb2⟩
    have hB2 := hB1.trans (hb2.mono hB1.size)
    have HN3 := Lib.hid (nilDrop 0 w2)
    clear HN2
    go_wp2_with fail
    refine HN3.out.mono ?_
    rintro e w3 ⟨rfl, hb3⟩
    have hB3 := hB2.trans (hb3.mono hB2.size)
    have HN4 := Lib.hid (nilHas 0 w3)
    clear HN3
    go_wp2_with fail
    refine HN4.out.mono ?_
    rintro e w4 ⟨rfl, hb4⟩
    have hB4 := hB3.trans (hb4.mono hB3.size)
    have HN5 := Lib.hid (nilStats w4)
    clear HN4
    go_wp2_with fail
    refine HN5.out.mono ?_
    rintro e w5 ⟨rfl, hb5⟩
    have hB5 := hB4.trans (hb5.mono hB4.size)
    go_wp2_with fail
    go_ret
    exact ⟨rfl, hB5⟩

theorem own : ownKnob Tryd.prog.godebug = none := by kernel_rfl
theorem laidOut : laidOutB Tryd.prog = true := by kernel_rfl

set_option maxRecDepth 100000 in
theorem lifted (os : Os) (started : os.Started) (H : Type) (enc : TypeId × Value → H) :
    ReturnsInHanded {} Tryd.checked os 4 .any (fun w args => (Rows.cacheBoundsSpec.pre enc Tryd.prog Tryd.f4 [] false w args ∧ laidMetH Tryd.prog laidL w) ∧ sizedMet enc Tryd.prog Tryd.f4 (OpenSpec.ofChange Rows.cacheBoundsSpec) false w args)
      (Rows.cacheBoundsSpec.post enc Tryd.prog Tryd.f4 false true false false) := by
  refine returnsInHanded_of_change_and (C := Tryd.checked) (X := fun w _ => laidMetH Tryd.prog laidL w) (fun _ _ _ hh h => h.of_heap hh) own started (by kernel_rfl) Tryd.func4
    (ChangeSpec.witness_shaped (enc := enc) (C := Tryd.checked) (os := os) (X := fun w _ => laidMetH Tryd.prog laidL w) false (World.doorLaid Tryd.prog 400 os) #[.int .i64 0, .slice none 0 0] 8 rfl (World.shaped_of_RefB (by kernel_rfl) (by kernel_rfl)) (by kernel_rfl) (by kernel_rfl) (by kernel_rfl) (door_met os _)) ?_
  intro W base args ds gs before hval0 hW _ _ hL _
  have hval : ∀ (j : Nat) t v, Tryd.f4.params[j]? = some t → args[j]? = some v → Value.okWide Tryd.prog W .any base t v := hval0
  have hW' := hW
  obtain ⟨p, q, hA0, hV, rfl, hfz, hnd⟩ := hW
  have hA : DataW.TrodAll enc Tryd.prog W 0 (fun _ => true) true Tryd.f4.params.toList args.toList ds p := hA0
  rw [Tryd.params4] at hA hval
  obtain ⟨v0, v1, d0, d1, p0, p1, rfl, rfl, rfl, h0, h1⟩ := trodAll_two hA
  obtain ⟨rfl, rfl⟩ := trodVars_none hV
  obtain ⟨a0, rfl, rfl, rfl, wa0⟩ := open_int Tryd.underlying3 (hval 0 3 v0 rfl rfl) h0
  obtain ⟨A1, n1, c1, V1, rfl, hn1, hz1, ho1⟩ := open_list (hval 1 47 v1 rfl rfl) h1
  clear hA0 hval0
  refine (walk a0 A1 n1 c1 V1 W wa0 hn1 hz1 ho1 (tabs_of_laid hL)).mono fun e W' ⟨he, hg⟩ => ?_
  subst he
  exact ⟨_, rfl, law_post laidOut rfl rfl rfl (by rw [Tryd.params4]; decide +kernel) hW' hg⟩

/-- The row. -/
theorem holds : Rows.CacheBoundsSaid :=
  OpenClaim.holds_of_wide 4 Tryd.f4 rfl rfl rfl rfl rfl rfl rfl ⟨rfl, rfl, rfl, rfl, rfl⟩ rfl rfl rfl rfl rfl (by kernel_rfl) Tryd.func4 (by kernel_rfl)
    (of_decide_eq_true (by kernel_rfl)) (by unfold Func.isWrapper; first | (rw [if_pos (by decide +kernel)]; kernel_rfl) | (rw [if_neg (by decide +kernel)]; exact ⟨rfl, rfl⟩))
    (fun os started H enc _ => lifted os started H enc)
/-- The statement: the row's card. -/
theorem proved : Rows.CacheBoundsCardSaid :=
  Claim7.holds_tied_plain_at .later [] Rows.cacheBoundsCard.laidKinds Rows.cacheBoundsCard.laidTests Rows.cacheBoundsCard.stood.harness Rows.cacheBoundsCard.stood.looks
    holds (fun _ h => by cases h) (by kernel_rfl) (fun _ h => by cases h) cacheBounds_row_tie rfl ⟨rfl, rfl⟩ (by kernel_rfl) rfl
    (fun f fn hf hfn => by
      obtain rfl : f = 4 := Option.some.inj ((show Tryd.prog.funcNamed "colophon/colophonlaw07.CacheBounds" = some 4 by kernel_rfl).symm.trans hf) |>.symm
      obtain rfl : fn = Tryd.f4 := (Option.some.inj (Tryd.func4.symm.trans hfn)).symm
      exact ⟨by kernel_rfl, fun j t ht => by
        have hm : t ∈ Tryd.f4.params.toList := by simpa using Array.mem_of_getElem? ht
        have hall : (Tryd.f4.params.toList.all fun u => !Tryd.prog.wantsStandIn u) = true := by kernel_rfl
        exact (show Tryd.prog.wantsStandIn t = false by simpa using List.all_eq_true.1 hall t hm)⟩)
    (by kernel_rfl)
#print axioms proved
end Go.Proofs.YtjmajminfmcjcaaDoor.cacheBounds
