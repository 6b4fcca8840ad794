/- For every input colophonlaw04.CrcAdds returns true, and its arguments read as they read. No condition but that the two tables lie as the program's text lays them (the card ties it). -/
import Derived.Test.YtfpmipfegjchmaaDoorCrcLaw
import Derived.Test.YtfpmipfegjchmaaDoorRegion
import Derived.Deep.RegionHeld3
import Derived.Deep.RegionLaw
import Derived.Deep.AppendLies
import Derived.Deep.CutBlock
import Derived.Deep.DeepCutAuto
namespace Go.Proofs.YtfpmipfegjchmaaDoor.crcAdds
open Go.ChangeShapes Go.WideShapes Go.ChangeAt Go.RowKit

theorem xor_8 {x y : Nat} (hx : x < 256) (hy : y < 256) : bits .xor .u8 (x : Int) (y : Int) = ((x ^^^ y : Nat) : Int) := u8_xor_nat x y hx hy

/-- three texts added without carry. -/
def D (V V' V'' : Nat → Nat) : Nat → Nat := fun j => (V j ^^^ V' j) ^^^ V'' j

/-- what the operations of the last statement leave, each in its slot. -/
def psi (A A' A'' X : Option Addr) (n n' n'' m c c' c'' cx s1 s2 s3 s4 : Nat) : Nat → Value → World → Prop
  | 0 => Is (.slice A n c)
  | 1 => Is (.int .i64 (m : Int))
  | 2 => Is (.slice A m c)
  | 3 => Row (.slice A m c)
  | 4 => Is (.int .u32 (s1 : Int))
  | 5 => Is (.slice A' n' c')
  | 6 => Is (.int .i64 (m : Int))
  | 7 => Is (.slice A' m c')
  | 8 => Row (.slice A' m c')
  | 9 => Is (.int .u32 (s2 : Int))
  | 10 => Is (.int .u32 ((s1 ^^^ s2 : Nat) : Int))
  | 11 => Is (.slice A'' n'' c'')
  | 12 => Is (.int .i64 (m : Int))
  | 13 => Is (.slice A'' m c'')
  | 14 => Row (.slice A'' m c'')
  | 15 => Is (.int .u32 (s3 : Int))
  | 16 => Is (.int .u32 (s4 : Int))
  | 17 => Is (.slice X m cx)
  | 18 => Row (.slice X m cx)
  | 19 => Is (.int .u32 (s4 : Int))
  | 20 => Is (.bool true)
  | 21 => Is (.bool true)
  | _ => fun _ _ => False
theorem psi_mono {A A' A'' X : Option Addr} {n n' n'' m c c' c'' cx s1 s2 s3 s4 : Nat} (j : Nat) (v : Value) (w w' : World) (h : psi A A' A'' X n n' n'' m c c' c'' cx s1 s2 s3 s4 j v w) (hb : Below w.heap.size w w') : psi A A' A'' X n n' n'' m c c' c'' cx s1 s2 s3 s4 j v w' := by
  unfold psi at h ⊢
  split at h <;> first | exact h | exact Row.mono h hb

set_option maxRecDepth 100000 in
set_option maxHeartbeats 3200000 in
theorem walk (A : Option Addr) (n c : Nat) (V : Nat → Nat) (A' : Option Addr) (n' c' : Nat) (V' : Nat → Nat) (A'' : Option Addr) (n'' c'' : Nat) (V'' : Nat → Nat) (w : World)
    (_hcm : c ≤ maxLen) (_hA : A = none → n = 0 ∧ c = 0) (hc : n ≤ c) (ho : Bys w w.heap.size A n V)
    (_hcm' : c' ≤ maxLen) (_hA' : A' = none → n' = 0 ∧ c' = 0) (hc' : n' ≤ c') (ho' : Bys w w.heap.size A' n' V')
    (_hcm'' : c'' ≤ maxLen) (_hA'' : A'' = none → n'' = 0 ∧ c'' = 0) (hc'' : n'' ≤ c'') (ho'' : Bys w w.heap.size A'' n'' V'') (ht : Tabs w) :
    Calls Tryd.prog 6 #[.slice A n c, .slice A' n' c', .slice A'' n'' c''] w fun e w' => e = .returned (.bool true) ∧ Below w.heap.size w w' := by
  have HT := Lib.hid ht
  have HF := Lib.hid (cfirst_any w ht)
  obtain ⟨m, hm⟩ : ∃ m, min (min (min n n') n'') 500 = m := ⟨_, rfl⟩
  have h1 : m ≤ n := by omega
  have h2 : m ≤ n' := by omega
  have h3 : m ≤ n'' := by omega
  have hm1 : m ≤ 500 := by omega
  have hmin : (if (500 : Int) < (if (n'' : Int) < (if (n' : Int) < (n : Int) then (n' : Int) else (n : Int)) then (n'' : Int) else if (n' : Int) < (n : Int) then (n' : Int) else (n : Int)) then 500
      else if (n'' : Int) < (if (n' : Int) < (n : Int) then (n' : Int) else (n : Int)) then (n'' : Int) else if (n' : Int) < (n : Int) then (n' : Int) else (n : Int)) = (m : Int) := by
    repeat' split
    all_goals omega
  have HO := Lib.hid (ho.take h1)
  have HO' := Lib.hid (ho'.take h2)
  have HO'' := Lib.hid (ho''.take h3)
  have hmin4 : ∀ W, (Builtin.min_ #[3, 3, 3, 3] 3 #[.int .i64 (n : Int), .int .i64 (n' : Int), .int .i64 (n'' : Int), .int .i64 500]).run Tryd.prog W = .ok (.int .i64 (m : Int)) W := fun W => by
    simp only [Builtin.min_, List.foldlM, Builtin.min2, Sem.run_bind, Sem.run_pure, Result.andThen_ok, hmin]
  clear ho ho' ho'' ht hm hmin
  go_enter Tryd.func6, Tryd.ntmps6
  go_wp2_with fail
  refine HF.out.mono ?_
  rintro e w0 ⟨rfl, hb0⟩
  go_wp2_with fail
  clear hmin4 HF
  go_loopw [8, 20] (fun s v wr => ∃ i : Nat, i ≤ m ∧ v = .int .i64 (i : Int) ∧ Hid (wr.ownsRow w.heap.size 5 1 s i (ycells (D V V' V'') i)) ∧ Below w.heap.size w wr) (fun _ v _ => m - (intOf v).toNat)
  case atStart => exact ⟨0, Nat.zero_le _, rfl, Lib.hid (World.ownsRow_nil _ _ _ _), hb0⟩
  case round =>
    clear hb0
    obtain ⟨i, hi, rfl, hown, hB⟩ := hrel
    by_cases hlt : i < m
    · obtain ⟨ad, rfl, had, hV, hV8⟩ := (HO.out.below hB) i hlt
      obtain ⟨ad', rfl, had', hV', hV8'⟩ := (HO'.out.below hB) i hlt
      obtain ⟨ad'', rfl, had'', hV'', hV8''⟩ := (HO''.out.below hB) i hlt
      have HD := Lib.hid (show D V V' V'' i = (V i ^^^ V' i) ^^^ V'' i from rfl)
      have hx1 := xor_8 hV8 hV8'
      have hxl : V i ^^^ V' i < 256 := Nat.xor_lt_two_pow (n := 8) hV8 hV8'
      have hx2 := xor_8 hxl hV8''
      obtain ⟨x, ex⟩ : ∃ x, V i = x := ⟨_, rfl⟩
      obtain ⟨y, ey⟩ : ∃ y, V' i = y := ⟨_, rfl⟩
      obtain ⟨z, ez⟩ : ∃ z, V'' i = z := ⟨_, rfl⟩
      rw [ex] at hV hV8 hx1 HD hx2 hxl
      rw [ey] at hV' hV8' hx1 HD hx2 hxl
      rw [ez] at hV'' hV8'' hx2 HD
      have HEx := Lib.hid ex
      have HEy := Lib.hid ey
      have HEz := Lib.hid ez
      clear ex ey ez
      have hin : (i : Int) < (n : Int) := by omega
      have hin' : (i : Int) < (n' : Int) := by omega
      have hin'' : (i : Int) < (n'' : Int) := by omega
      have hBs := hB.size
      have HSS := Lib.hid (show ∀ W, Below w.heap.size w W → W.cell? (ad.add i) = some (.int .u8 (x : Int)) ∧ W.cell? (ad'.add i) = some (.int .u8 (y : Int)) ∧ W.cell? (ad''.add i) = some (.int .u8 (z : Int)) ∧ Below w.heap.size w W from fun W hW => by
        have ex := HEx.out
        have ey := HEy.out
        have ez := HEz.out
        obtain ⟨b1, e1, _, q1, _⟩ := (HO.out.below hW) i hlt
        obtain ⟨b2, e2, _, q2, _⟩ := (HO'.out.below hW) i hlt
        obtain ⟨b3, e3, _, q3, _⟩ := (HO''.out.below hW) i hlt
        cases e1
        cases e2
        cases e3
        rw [ex] at q1
        rw [ey] at q2
        rw [ez] at q3
        exact ⟨q1, q2, q3, hW⟩)
      have hB0 := below_drew' hB
      have hBa := fun o => below_drew' (hB.alloc hB.size o)
      have HBl := Lib.hid (fun o => below_drew' ((Below.refl wr.heap.size wr).alloc (Nat.le_refl _) o))
      obtain ⟨i0, hi0, hz0, hs0, hb0⟩ := info_parts info_u8
      clear hxl hV hV' hV''
      go_wp2_with fail
      go_region_held3 (fun w' => w'.cell? (ad.add i) = some (.int .u8 (x : Int)) ∧ w'.cell? (ad'.add i) = some (.int .u8 (y : Int)) ∧ w'.cell? (ad''.add i) = some (.int .u8 (z : Int)) ∧ Below w.heap.size w w')
        ((first
          | exact HSS.out _ hB0
          | exact HSS.out _ (hBa _)
          | exact HSS.out _ hB5))
        ((first
          | (refine step_append_lies _ (by rfl) (.tmp 23) (.tmp 38) _ (by rfl) w.heap.size 5 i0 _ 1 1 Tryd.underlying22 hi0 hz0 hs0 hb0 rfl (by omega) _ i (ycells (D V V' V'') i) (by rfl) (ownsRow_keep hown.out (HBl.out _))
              ⟨wr.heap.size, 0, none⟩ 1 1 [.int .u8 (((x ^^^ y) ^^^ z : Nat) : Int)] (by rfl) (by rfl) (World.news_of_block (cs := #[.int .u8 (((x ^^^ y) ^^^ z : Nat) : Int)]) (t := 5) (fr := (0, 0)) (heap_alloc_new wr _)) (by simp [Value.oneCell'])
              (by omega) (by unfold maxLen; omega) (by omega) (by simp; omega) (wr.heap.size + 1) (by simp) ?_; intro g5 cap5 w5 hown5 hgrow hat5 hlt5; have hB5 := (hBa (.cells #[.int .u8 (((x ^^^ y) ^^^ z : Nat) : Int)] 5)).trans (((Below.refl w.heap.size _).grown hgrow (by simp; omega) (fun k hk => (hown.out.lt k hk).1))))))
      all_goals
        go_wp2_with fail
        go_roundw
        case rel =>
          refine ⟨i + 1, by omega, by go_num, Lib.hid ?_, hB5⟩
          rw [ycells_snoc, HD.out]
          exact hown5
        case measure => simp [intOf]; omega
    · have him : i = m := by omega
      subst him
      obtain ⟨X, cx, rfl, hX, hcx, hox⟩ := row_bys hown.out (fun k hk => Nat.xor_lt_two_pow (n := 8) (Nat.xor_lt_two_pow (n := 8) (HO.out.lt k hk) (HO'.out.lt k hk)) (HO''.out.lt k hk))
      have hsum := Pl.sumN_three (A := V) (B := V') (C := V'') (D := D V V' V'') (n := i) (fun _ _ => rfl)
      have hic : (i : Int) ≤ (c : Int) := by omega
      have hic' : (i : Int) ≤ (c' : Int) := by omega
      have hic'' : (i : Int) ≤ (c'' : Int) := by omega
      have l1 := Pl.sumN_lt V i
      have l2 := Pl.sumN_lt V' i
      have l3 := Pl.sumN_lt V'' i
      obtain ⟨s1, h1'⟩ : ∃ s, Pl.sumN V i = s := ⟨_, rfl⟩
      obtain ⟨s2, h2'⟩ : ∃ s, Pl.sumN V' i = s := ⟨_, rfl⟩
      obtain ⟨s3, h3'⟩ : ∃ s, Pl.sumN V'' i = s := ⟨_, rfl⟩
      obtain ⟨s4, h4'⟩ : ∃ s, Pl.sumN (D V V' V'') i = s := ⟨_, rfl⟩
      rw [h1', h2', h3', h4'] at hsum
      rw [h1'] at l1
      rw [h2'] at l2
      rw [h3'] at l3
      have H1 := Lib.hid h1'
      have H2 := Lib.hid h2'
      have H3 := Lib.hid h3'
      have H4 := Lib.hid h4'
      have hx1 := xor_32 l1 l2
      have hx2 : bits .xor .u32 ((s1 ^^^ s2 : Nat) : Int) (s3 : Int) = (s4 : Int) := by rw [xor_32 (Nat.xor_lt_two_pow l1 l2) l3, hsum]
      have HX := Lib.hid hox
      clear h1' h2' h3' h4' hsum hox hown l1 l2 l3
      go_wp2_with fail
      refine region_by_facts (Ψ := psi A A' A'' X n n' n'' i c c' c'' cx s1 s2 s3 s4) (by kernel_rfl) (by kernel_rfl) (by kernel_rfl) psi_mono ?_ ?_
      · intro j hj a wx hold hB2 hpre
        have hBx := hB.trans (hB2.mono hB.size)
        have hj22 : j < 22 := hj
        have hj' : j = 0 ∨ j = 1 ∨ j = 2 ∨ j = 3 ∨ j = 4 ∨ j = 5 ∨ j = 6 ∨ j = 7 ∨ j = 8 ∨ j = 9 ∨ j = 10 ∨ j = 11 ∨ j = 12 ∨ j = 13 ∨ j = 14 ∨ j = 15 ∨ j = 16 ∨ j = 17 ∨ j = 18 ∨ j = 19 ∨ j = 20 ∨ j = 21 := by omega
        clear hj hj22
        rcases hj' with rfl | rfl | rfl | rfl | rfl | rfl | rfl | rfl | rfl | rfl | rfl | rfl | rfl | rfl | rfl | rfl | rfl | rfl | rfl | rfl | rfl | rfl
        · refine wpOp_step rfl (fun K' hK => ?_)
          have e0 : a.tmps.getD 0 undef = .slice A n c := hold 0 (not_dst (by kernel_rfl))
          clear hold hpre
          go_simp
          exact hK _ _ ⟨41, _, rfl, rfl, Below.refl _ _, rfl⟩
        · refine wpOp_step rfl (fun K' hK => ?_)
          have e0 : a.tmps.getD 7 undef = .int .i64 (i : Int) := hold 7 (not_dst (by kernel_rfl))
          clear hold hpre
          go_simp
          exact hK _ _ ⟨42, _, rfl, rfl, Below.refl _ _, rfl⟩
        · refine wpOp_step rfl (fun K' hK => ?_)
          have e0 : a.tmps.getD 41 undef = .slice A n c := hpre 0 41 (by kernel_rfl) rfl
          have e1 : a.tmps.getD 42 undef = .int .i64 (i : Int) := hpre 1 42 (by kernel_rfl) rfl
          clear hold hpre
          go_simp
          exact hK _ _ ⟨43, _, rfl, rfl, Below.refl _ _, rfl⟩
        · refine wpOp_step rfl (fun K' hK => ?_)
          have e0 : a.tmps.getD 43 undef = .slice A i c := hpre 2 43 (by kernel_rfl) rfl
          have e1 : a.tmps[43]?.getD undef = .slice A i c := by rw [← Array.getD_eq_getD_getElem?]; exact e0
          clear hold hpre
          go_simp
          exact hK _ _ ⟨44, _, rfl, rfl, (Below.refl _ _).alloc (Nat.le_refl _) _, ⟨_, rfl, (lies_new wx 22 [.slice A i c]).cell 0⟩⟩
        · refine wpOp_step rfl (fun K' hK => ?_)
          obtain ⟨g, e0, hc0⟩ : Row _ (a.tmps.getD 44 undef) wx := hpre 3 44 (by kernel_rfl) rfl
          have HS := Lib.hid (sum_at (by omega) hc0 ((HO.out.below hBx).mono_ hBx.size) (HT.out.keep hBx))
          rw [H1.out] at HS
          clear hold hpre hc0
          go_simp
          refine HS.out.mono ?_
          rintro e w' ⟨rfl, hb'⟩
          exact hK _ _ ⟨45, _, rfl, rfl, hb', rfl⟩
        · refine wpOp_step rfl (fun K' hK => ?_)
          have e0 : a.tmps.getD 1 undef = .slice A' n' c' := hold 1 (not_dst (by kernel_rfl))
          clear hold hpre
          go_simp
          exact hK _ _ ⟨46, _, rfl, rfl, Below.refl _ _, rfl⟩
        · refine wpOp_step rfl (fun K' hK => ?_)
          have e0 : a.tmps.getD 7 undef = .int .i64 (i : Int) := hold 7 (not_dst (by kernel_rfl))
          clear hold hpre
          go_simp
          exact hK _ _ ⟨47, _, rfl, rfl, Below.refl _ _, rfl⟩
        · refine wpOp_step rfl (fun K' hK => ?_)
          have e0 : a.tmps.getD 46 undef = .slice A' n' c' := hpre 5 46 (by kernel_rfl) rfl
          have e1 : a.tmps.getD 47 undef = .int .i64 (i : Int) := hpre 6 47 (by kernel_rfl) rfl
          clear hold hpre
          go_simp
          exact hK _ _ ⟨48, _, rfl, rfl, Below.refl _ _, rfl⟩
        · refine wpOp_step rfl (fun K' hK => ?_)
          have e0 : a.tmps.getD 48 undef = .slice A' i c' := hpre 7 48 (by kernel_rfl) rfl
          have e1 : a.tmps[48]?.getD undef = .slice A' i c' := by rw [← Array.getD_eq_getD_getElem?]; exact e0
          clear hold hpre
          go_simp
          exact hK _ _ ⟨49, _, rfl, rfl, (Below.refl _ _).alloc (Nat.le_refl _) _, ⟨_, rfl, (lies_new wx 22 [.slice A' i c']).cell 0⟩⟩
        · refine wpOp_step rfl (fun K' hK => ?_)
          obtain ⟨g, e0, hc0⟩ : Row _ (a.tmps.getD 49 undef) wx := hpre 8 49 (by kernel_rfl) rfl
          have HS := Lib.hid (sum_at (by omega) hc0 ((HO'.out.below hBx).mono_ hBx.size) (HT.out.keep hBx))
          rw [H2.out] at HS
          clear hold hpre hc0
          go_simp
          refine HS.out.mono ?_
          rintro e w' ⟨rfl, hb'⟩
          exact hK _ _ ⟨50, _, rfl, rfl, hb', rfl⟩
        · refine wpOp_step rfl (fun K' hK => ?_)
          have e0 : a.tmps.getD 45 undef = .int .u32 (s1 : Int) := hpre 4 45 (by kernel_rfl) rfl
          have e1 : a.tmps.getD 50 undef = .int .u32 (s2 : Int) := hpre 9 50 (by kernel_rfl) rfl
          clear hold hpre
          go_simp
          exact hK _ _ ⟨51, _, rfl, rfl, Below.refl _ _, rfl⟩
        · refine wpOp_step rfl (fun K' hK => ?_)
          have e0 : a.tmps.getD 2 undef = .slice A'' n'' c'' := hold 2 (not_dst (by kernel_rfl))
          clear hold hpre
          go_simp
          exact hK _ _ ⟨52, _, rfl, rfl, Below.refl _ _, rfl⟩
        · refine wpOp_step rfl (fun K' hK => ?_)
          have e0 : a.tmps.getD 7 undef = .int .i64 (i : Int) := hold 7 (not_dst (by kernel_rfl))
          clear hold hpre
          go_simp
          exact hK _ _ ⟨53, _, rfl, rfl, Below.refl _ _, rfl⟩
        · refine wpOp_step rfl (fun K' hK => ?_)
          have e0 : a.tmps.getD 52 undef = .slice A'' n'' c'' := hpre 11 52 (by kernel_rfl) rfl
          have e1 : a.tmps.getD 53 undef = .int .i64 (i : Int) := hpre 12 53 (by kernel_rfl) rfl
          clear hold hpre
          go_simp
          exact hK _ _ ⟨54, _, rfl, rfl, Below.refl _ _, rfl⟩
        · refine wpOp_step rfl (fun K' hK => ?_)
          have e0 : a.tmps.getD 54 undef = .slice A'' i c'' := hpre 13 54 (by kernel_rfl) rfl
          have e1 : a.tmps[54]?.getD undef = .slice A'' i c'' := by rw [← Array.getD_eq_getD_getElem?]; exact e0
          clear hold hpre
          go_simp
          exact hK _ _ ⟨55, _, rfl, rfl, (Below.refl _ _).alloc (Nat.le_refl _) _, ⟨_, rfl, (lies_new wx 22 [.slice A'' i c'']).cell 0⟩⟩
        · refine wpOp_step rfl (fun K' hK => ?_)
          obtain ⟨g, e0, hc0⟩ : Row _ (a.tmps.getD 55 undef) wx := hpre 14 55 (by kernel_rfl) rfl
          have HS := Lib.hid (sum_at (by omega) hc0 ((HO''.out.below hBx).mono_ hBx.size) (HT.out.keep hBx))
          rw [H3.out] at HS
          clear hold hpre hc0
          go_simp
          refine HS.out.mono ?_
          rintro e w' ⟨rfl, hb'⟩
          exact hK _ _ ⟨56, _, rfl, rfl, hb', rfl⟩
        · refine wpOp_step rfl (fun K' hK => ?_)
          have e0 : a.tmps.getD 51 undef = .int .u32 ((s1 ^^^ s2 : Nat) : Int) := hpre 10 51 (by kernel_rfl) rfl
          have e1 : a.tmps.getD 56 undef = .int .u32 (s3 : Int) := hpre 15 56 (by kernel_rfl) rfl
          clear hold hpre
          go_simp
          exact hK _ _ ⟨57, _, rfl, rfl, Below.refl _ _, rfl⟩
        · refine wpOp_step rfl (fun K' hK => ?_)
          have e0 : a.tmps.getD 8 undef = .slice X i cx := hold 8 (not_dst (by kernel_rfl))
          clear hold hpre
          go_simp
          exact hK _ _ ⟨58, _, rfl, rfl, Below.refl _ _, rfl⟩
        · refine wpOp_step rfl (fun K' hK => ?_)
          have e0 : a.tmps.getD 58 undef = .slice X i cx := hpre 17 58 (by kernel_rfl) rfl
          have e1 : a.tmps[58]?.getD undef = .slice X i cx := by rw [← Array.getD_eq_getD_getElem?]; exact e0
          clear hold hpre
          go_simp
          exact hK _ _ ⟨59, _, rfl, rfl, (Below.refl _ _).alloc (Nat.le_refl _) _, ⟨_, rfl, (lies_new wx 22 [.slice X i cx]).cell 0⟩⟩
        · refine wpOp_step rfl (fun K' hK => ?_)
          obtain ⟨g, e0, hc0⟩ : Row _ (a.tmps.getD 59 undef) wx := hpre 18 59 (by kernel_rfl) rfl
          have HS := Lib.hid (sum_at (by omega) hc0 ((HX.out.below hB2).mono_ hB2.size) (HT.out.keep hBx))
          rw [H4.out] at HS
          clear hold hpre hc0
          go_simp
          refine HS.out.mono ?_
          rintro e w' ⟨rfl, hb'⟩
          exact hK _ _ ⟨60, _, rfl, rfl, hb', rfl⟩
        · refine wpOp_step rfl (fun K' hK => ?_)
          have e0 : a.tmps.getD 57 undef = .int .u32 (s4 : Int) := hpre 16 57 (by kernel_rfl) rfl
          have e1 : a.tmps.getD 60 undef = .int .u32 (s4 : Int) := hpre 19 60 (by kernel_rfl) rfl
          clear hold hpre
          go_simp
          exact hK _ _ ⟨61, _, rfl, rfl, Below.refl _ _, rfl⟩
        · refine wpOp_step rfl (fun K' hK => ?_)
          have e0 : a.tmps.getD 61 undef = .bool true := hpre 20 61 (by kernel_rfl) rfl
          clear hold hpre
          go_simp
          exact hK _ _ ⟨6, _, rfl, rfl, Below.refl _ _, rfl⟩
      · intro a wx hdef hold hB2 hf
        have e6 : a.tmps.getD 6 undef = .bool true := hf 21 6 rfl
        have hBx := hB.trans (hB2.mono hB.size)
        clear hf hold
        go_wp2_with fail
        have e7 : a.tmps[6]?.getD undef = .bool true := by rw [← Array.getD_eq_getD_getElem?]; exact e6
        exact bodyPost_ret (v := .bool true) (by simp [results, Tryd.results6, go_sem, e7]) hdef ⟨rfl, hBx⟩

theorem own : ownKnob Tryd.prog.godebug = none := by kernel_rfl
theorem laidOut : laidOutB Tryd.prog = true := by kernel_rfl

set_option maxRecDepth 100000 in
theorem lifted (os : Os) (started : os.Started) (H : Type) (enc : TypeId × Value → H) :
    ReturnsInHanded {} Tryd.checked os 6 .any (fun w args => (Rows.crcAddsSpec.pre enc Tryd.prog Tryd.f6 [] false w args ∧ laidMetH Tryd.prog laidL w) ∧ sizedMet enc Tryd.prog Tryd.f6 (OpenSpec.ofChange Rows.crcAddsSpec) false w args)
      (Rows.crcAddsSpec.post enc Tryd.prog Tryd.f6 false true false false) := by
  refine returnsInHanded_of_change_and (C := Tryd.checked) (X := fun w _ => laidMetH Tryd.prog laidL w) (fun _ _ _ hh h => h.of_heap hh) own started (by kernel_rfl) Tryd.func6
    (ChangeSpec.witness_shaped (enc := enc) (C := Tryd.checked) (os := os) (X := fun w _ => laidMetH Tryd.prog laidL w) false (World.doorLaid Tryd.prog 400 os) #[.slice none 0 0, .slice none 0 0, .slice none 0 0] 8 rfl (World.shaped_of_RefB (by kernel_rfl) (by kernel_rfl)) (by kernel_rfl) (by kernel_rfl) (by kernel_rfl) (door_met os _)) ?_
  intro W base args ds gs before hval0 hW _ _ hL _
  have hval : ∀ (j : Nat) t v, Tryd.f6.params[j]? = some t → args[j]? = some v → Value.okWide Tryd.prog W .any base t v := hval0
  have hW' := hW
  obtain ⟨p, q, hA0, hV, rfl, hfz, hnd⟩ := hW
  have hA : DataW.TrodAll enc Tryd.prog W 0 (fun _ => true) true Tryd.f6.params.toList args.toList ds p := hA0
  rw [Tryd.params6] at hA hval
  obtain ⟨v0, v1, v2, d0, d1, d2, p0, p1, p2, rfl, rfl, rfl, h0, h1, h2⟩ := trodAll_three hA
  obtain ⟨rfl, rfl⟩ := trodVars_none hV
  obtain ⟨A0, n0, c0, V0, rfl, hn0, hz0, hc0, ho0⟩ := open_bytesc (hval 0 22 v0 rfl rfl) h0
  obtain ⟨A1, n1, c1, V1, rfl, hn1, hz1, hc1, ho1⟩ := open_bytesc (hval 1 22 v1 rfl rfl) h1
  obtain ⟨A2, n2, c2, V2, rfl, hn2, hz2, hc2, ho2⟩ := open_bytesc (hval 2 22 v2 rfl rfl) h2
  clear hA0 hval0
  refine (walk A0 n0 c0 V0 A1 n1 c1 V1 A2 n2 c2 V2 W hn0 hz0 hc0 ho0 hn1 hz1 hc1 ho1 hn2 hz2 hc2 ho2 (tabs_of_laid hL)).mono fun e W' ⟨he, hg⟩ => ?_
  subst he
  exact ⟨_, rfl, law_post laidOut rfl rfl rfl (by rw [Tryd.params6]; decide +kernel) hW' hg⟩

/-- The row. -/
theorem holds : Rows.CrcAddsSaid :=
  OpenClaim.holds_of_wide 6 Tryd.f6 rfl rfl rfl rfl rfl rfl rfl ⟨rfl, rfl, rfl, rfl, rfl⟩ rfl rfl rfl rfl rfl (by kernel_rfl) Tryd.func6 (by kernel_rfl)
    (of_decide_eq_true (by kernel_rfl)) (by unfold Func.isWrapper; first | (rw [if_pos (by decide +kernel)]; kernel_rfl) | (rw [if_neg (by decide +kernel)]; exact ⟨rfl, rfl⟩))
    (fun os started H enc _ => lifted os started H enc)
/-- The statement: the row's card. -/
theorem proved : Rows.CrcAddsCardSaid :=
  Claim7.holds_tied_plain_at .later [] Rows.crcAddsCard.laidKinds Rows.crcAddsCard.laidTests Rows.crcAddsCard.stood.harness Rows.crcAddsCard.stood.looks
    holds (fun _ h => by cases h) (by kernel_rfl) (fun _ h => by cases h) crcAdds_row_tie rfl ⟨rfl, rfl⟩ (by kernel_rfl) rfl
    (fun f fn hf hfn => by
      obtain rfl : f = 6 := Option.some.inj ((show Tryd.prog.funcNamed "colophon/colophonlaw04.CrcAdds" = some 6 by kernel_rfl).symm.trans hf) |>.symm
      obtain rfl : fn = Tryd.f6 := (Option.some.inj (Tryd.func6.symm.trans hfn)).symm
      exact ⟨by kernel_rfl, fun j t ht => by
        have hm : t ∈ Tryd.f6.params.toList := by simpa using Array.mem_of_getElem? ht
        have hall : (Tryd.f6.params.toList.all fun u => !Tryd.prog.wantsStandIn u) = true := by kernel_rfl
        exact (show Tryd.prog.wantsStandIn t = false by simpa using List.all_eq_true.1 hall t hm)⟩)
    (by kernel_rfl)
#print axioms proved
end Go.Proofs.YtfpmipfegjchmaaDoor.crcAdds
