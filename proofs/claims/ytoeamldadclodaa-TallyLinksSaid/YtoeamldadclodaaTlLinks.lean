/- The walk of colophonlaw16.TallyLinks, over what package tally answers (TalI); append to two rows of ints in one drawn region. -/
import Derived.Test.YtoeamldadclodaaTalI
import Derived.Test.YtoeamldadclodaaIntApp
import Derived.Test.YtoeamldadclodaaHeld
import Derived.Deep.DeepCutAuto
import Derived.Deep.WholeRow
import Derived.Deep.RegionHeld3
namespace Go.Proofs.Ytoeamldadclodaa
open Go.RowKit

/-- append of one int out of a block of its own, as one step of a region that draws its order, walked by hand. -/
theorem held_append_int {ops : Array Oper} {o : Oper} {a : Act} {w : World} {K : Act → World → Prop} {Q : Exit → Act → World → Prop} {E : Prop} (d : Nat) (hd : o.dst = some d) (hgd : o.guard = none) (s x : Operand)
    (ho : o.op = .call { callee := .builtin .append, args := #[s, x], argTypes := #[22, 22] })
    {B : Nat} {v : Value} {i : Nat} {xs : List Value} (hs : a.eval s = v) (hown : w.ownsRow B 3 1 v i xs) {e : Nat} {y : Int} (hx : a.eval x = .slice (some ⟨e, 0, none⟩) 1 1) (hl : Lies w e 3 [.int .i64 y])
    (hB : B ≤ w.heap.size) (hi : i ≤ 4194304)
    (h : ∀ g cap w', w'.ownsRow B 3 1 (.slice (some ⟨g, 0, none⟩) (i + 1) cap) (i + 1) (xs ++ [.int .i64 y]) → w.grownBy w' v.ownBlock → (v.ownBlock = some g ∨ w.heap.size ≤ g) → K (a.put (some d) (.slice (some ⟨g, 0, none⟩) (i + 1) cap)) w') :
    if Region.wanted o (yielded ops a.tmps) = true then Oper.wp Try.prog o a w K Q else E := by
  have hw : Region.wanted o (yielded ops a.tmps) = true := by simp [Region.wanted, hgd]
  rw [if_pos hw]
  obtain ⟨i0, hi0, hz0, hs0, hb0⟩ := info_parts info_i64
  refine wp_append_lies w s x 22 ho B 3 i0 (.int .i64 0) 1 8 Try.underlying22 hi0 hz0 hs0 hb0 rfl (by decide) v i xs hs hown ⟨e, 0, none⟩ 1 1 [.int .i64 y] hx rfl
    (World.news_of_block (cs := #[.int .i64 y]) (t := 3) (fr := (0, 0)) hl) (by simp [Value.oneCell']) (by decide) (by unfold maxLen; omega) (by omega) hB w.heap.size rfl (fun g cap w' h1 h2 h3 _ => ?_)
  rw [hd]
  exact h g cap w' h1 h2 (h3.imp id (fun e => by omega))
/-- two rows of the call's own, in blocks of their own. -/
structure TwoR (B : Nat) (w0 W : World) (s t : Value) (i j : Nat) (X Y : List Value) : Prop where
  a : W.ownsRow B 3 1 s i X
  b : W.ownsRow B 3 1 t j Y
  ap : Apart s t
  be : Below B w0 W
  sz : B ≤ W.heap.size
/-- one int in a block that is neither row's. -/
def ElemR (W : World) (s t : Value) (e : Nat) (y : Int) : Prop := Lies W e 3 [.int .i64 y] ∧ some e ≠ s.ownBlock ∧ some e ≠ t.ownBlock
section
variable {B : Nat} {w0 W W' : World} {s t : Value} {i j g c e : Nat} {X Y X' : List Value} {y : Int}
theorem TwoR.alloc (h : TwoR B w0 W s t i j X Y) (o : Obj) : TwoR B w0 (W.alloc o) s t i j X Y := ⟨h.a.alloc o, h.b.alloc o, h.ap, h.be.alloc h.sz o, by rw [size_alloc]; have := h.sz; omega⟩
theorem TwoR.elem (h : TwoR B w0 W s t i j X Y) (y : Int) (e : Nat) (he : W.heap.size = e) : ElemR (W.alloc (.cells #[.int .i64 y] 3)) s t e y := by
  subst he
  exact ⟨lies_new W _ _, fun e => by have := (h.a.lt _ e.symm).2; omega, fun e => by have := (h.b.lt _ e.symm).2; omega⟩
theorem TwoR.far (h : TwoR B w0 W s t i j X Y) {a : Addr} (ha : a.block < B) (u : Value) : TwoR B (W.setCell a u) (W.setCell a u) s t i j X Y :=
  ⟨owns_far h.a (fun e => by have := (h.a.lt _ e).1; omega) u, owns_far h.b (fun e => by have := (h.b.lt _ e).1; omega) u, h.ap, Below.refl _ _, by have := h.sz; simpa [World.setCell] using this⟩
theorem ElemR.alloc (h : ElemR W s t e y) (o : Obj) : ElemR (W.alloc o) s t e y := ⟨h.1.alloc o, h.2⟩
theorem TwoR.one (h : TwoR B w0 W s t i j X Y) (ho : W'.ownsRow B 3 1 (.slice (some ⟨g, 0, none⟩) (i + 1) c) (i + 1) X') (hg : W.grownBy W' s.ownBlock) (hw : s.ownBlock = some g ∨ W.heap.size ≤ g) : TwoR B w0 W' (.slice (some ⟨g, 0, none⟩) (i + 1) c) t (i + 1) j X' Y :=
  ⟨ho, Apart.kept h.b h.ap.symm hg, (Apart.next h.b h.ap.symm hw).symm, h.be.grown hg h.sz (fun k hk => (h.a.lt k hk).1), Nat.le_trans h.sz hg.size⟩
theorem TwoR.two (h : TwoR B w0 W s t i j X Y) (ho : W'.ownsRow B 3 1 (.slice (some ⟨g, 0, none⟩) (j + 1) c) (j + 1) X') (hg : W.grownBy W' t.ownBlock) (hw : t.ownBlock = some g ∨ W.heap.size ≤ g) : TwoR B w0 W' s (.slice (some ⟨g, 0, none⟩) (j + 1) c) i (j + 1) X X' :=
  ⟨Apart.kept h.a h.ap hg, ho, Apart.next h.a h.ap hw, h.be.grown hg h.sz (fun k hk => (h.b.lt k hk).1), Nat.le_trans h.sz hg.size⟩
theorem ElemR.one {m : Nat} (h : ElemR W s t e y) (hg : W.grownBy W' s.ownBlock) (hw : s.ownBlock = some g ∨ W.heap.size ≤ g) : ElemR W' (.slice (some ⟨g, 0, none⟩) m c) t e y :=
  ⟨h.1.grown hg h.2.1, fun e' => by
    have e' : some e = some g := e'
    rcases hw with hw | hw
    · exact h.2.1 (e'.trans hw.symm)
    · have := h.1.lt
      injection e' with e'
      omega, h.2.2⟩
theorem ElemR.two {m : Nat} (h : ElemR W s t e y) (hg : W.grownBy W' t.ownBlock) (hw : t.ownBlock = some g ∨ W.heap.size ≤ g) : ElemR W' s (.slice (some ⟨g, 0, none⟩) m c) e y :=
  ⟨h.1.grown hg h.2.2, h.2.1, fun e' => by
    have e' : some e = some g := e'
    rcases hw with hw | hw
    · exact h.2.2 (e'.trans hw.symm)
    · have := h.1.lt
      injection e' with e'
      omega⟩
end
/-- of each number below 256: whether it is among the first i. -/
def seenI (D : Nat → Int) (i : Nat) : Nat → Int := fun x => if lookB D (x : Int) i < 0 then 0 else 1
theorem seenI_next {D : Nat → Int} {i d : Nat} (h : D i = (d : Int)) (x : Nat) : seenI D (i + 1) x = if x = d then 1 else seenI D i x := by
  unfold seenI
  by_cases e : x = d
  · rw [if_pos e, lookB_hit (by rw [h, e]), if_neg (by omega)]
  · rw [if_neg e, lookB_miss (by rw [h]; omega)]
theorem seenI_at {D : Nat → Int} {i d : Nat} (h : D i = (d : Int)) : seenI D i d = if 0 ≤ lastD D i then 1 else 0 := by
  unfold seenI lastD
  rw [h]
  by_cases g : lookB D (d : Int) i < 0
  · rw [if_pos g, if_neg (by omega)]
  · rw [if_neg g, if_pos (by omega)]
theorem info_m256 : (Try.prog.info? 45).map (fun i => (i.zero, i.size)) = some (some (.agg (icells (fun _ => 0) 256).toArray), 256) := by kernel_rfl

section
variable {At : Nat → World → Value → Nat → (Nat → Int) → (Nat → Int) → Prop}
set_option linter.unusedSimpArgs false in
set_option maxRecDepth 100000 in
set_option maxHeartbeats 6400000 in
theorem tlLinks_walk (I : TalI At) (A A' : Option Addr) (n c n' c' : Nat) (V V' : Nat → Nat) (w : World) (hnm : n ≤ maxLen) (hnm' : n' ≤ maxLen) (ho : Bys w w.heap.size A n V) (ho' : Bys w w.heap.size A' n' V') :
    Calls Try.prog 6 #[.slice A n c, .slice A' n' c'] w fun e w' => e = .returned (.bool true) ∧ Below w.heap.size w w' := by
  have HI := Lib.hid I
  obtain ⟨lo, hlo⟩ : ∃ lo, w.heap.size = lo := ⟨_, rfl⟩
  have HO := Lib.hid ho
  have HO' := Lib.hid ho'
  have HF := Lib.hid (tlfirst_any I w)
  have hnl : n ≤ 9223372036854775807 := by unfold maxLen at hnm; omega
  have hnl' : n' ≤ 9223372036854775807 := by unfold maxLen at hnm'; omega
  obtain ⟨k, hk⟩ : ∃ k, k = min (min n n') 200 := ⟨_, rfl⟩
  have HKm := Lib.hid hk
  have hkn : k ≤ n ∧ k ≤ n' ∧ k ≤ 200 := by omega
  obtain ⟨hk1, hk2, hk3⟩ := hkn
  have HDV : Hid (∀ j, j < k → (fun j => ((V j : Nat) : Int)) j = ((V j : Nat) : Int) ∧ V j < 256) := Lib.hid fun j hj => ⟨rfl, by obtain ⟨_, _, _, _, h⟩ := ho j (by omega); exact h⟩
  have HLV : Hid (∀ j, j < k → V' j < 256) := Lib.hid fun j hj => by obtain ⟨_, _, _, _, h⟩ := ho' j (by omega); exact h
  obtain ⟨D, hD⟩ : ∃ D : Nat → Int, D = fun j => ((V j : Nat) : Int) := ⟨_, rfl⟩
  obtain ⟨L, hL⟩ : ∃ L : Nat → Int, L = fun j => ((V' j : Nat) : Int) := ⟨_, rfl⟩
  have HD := Lib.hid hD
  have HL := Lib.hid hL
  rw [hlo] at HO HO' ⊢
  clear I ho ho' hnm hnm' hk hD hL
  go_enter Try.func6, Try.ntmps6
  go_wp2_with fail
  refine HF.out.mono ?_
  rintro e w1 ⟨rfl, hb1⟩
  have HB1 : Hid (Below lo w w1) := Lib.hid (by rw [← hlo]; exact hb1)
  have hz := (zero_of_info info_m256).1
  obtain ⟨gb, hgb⟩ : ∃ gb, w1.heap.size = gb := ⟨_, rfl⟩
  obtain ⟨w2, hw2⟩ : ∃ w2, w1.alloc (.cells (icells (fun _ => 0) 256).toArray 45) = w2 := ⟨_, rfl⟩
  have z2 : w2.heap.size = gb + 1 := by rw [← hw2, size_alloc, hgb]
  have l2 : Lies w2 gb 45 (icells (fun _ => 0) 256) := by rw [← hw2, ← hgb]; exact lies_new w1 _ _
  have HB2 : Hid (Below lo w w2) := Lib.hid (by rw [← hw2]; exact HB1.out.alloc (by have := HB1.out.size; omega) _)
  have hlg : lo ≤ gb := by have := HB1.out.size; omega
  have HL2 : Hid (Lies w2 gb 45 (icells (seenI D 0) 256)) := Lib.hid (by
    rw [icells_congr (U := seenI D 0) (U' := fun _ => 0) (fun x _ => rfl)]
    exact l2)
  clear hb1 l2 HF HB1
  go_upto_region 3 with (fail)
  go_cut [5] from 17 to 21 (fun s wx => s = .int .i64 (k : Int) ∧ wx = w1)
  case first =>
    by_cases h1 : n' < n
    · have h1I : (n' : Int) < (n : Int) := by omega
      by_cases h2 : 200 < n'
      · have h2I : (200 : Int) < (n' : Int) := by omega
        go_wp2_with fail
        go_meet
        exact ⟨by congr 1; have := HKm.out; omega, rfl⟩
      · have h2I : ¬ (200 : Int) < (n' : Int) := by omega
        go_wp2_with fail
        go_meet
        exact ⟨by congr 1; have := HKm.out; omega, rfl⟩
    · have h1I : ¬ (n' : Int) < (n : Int) := by omega
      by_cases h2 : 200 < n
      · have h2I : (200 : Int) < (n : Int) := by omega
        go_wp2_with fail
        go_meet
        exact ⟨by congr 1; have := HKm.out; omega, rfl⟩
      · have h2I : ¬ (200 : Int) < (n : Int) := by omega
        go_wp2_with fail
        go_meet
        exact ⟨by congr 1; have := HKm.out; omega, rfl⟩
  case rest =>
  obtain ⟨rfl, rfl⟩ := hcut
  have H0 : Hid (TwoR (gb + 1) w2 w2 (.slice none 0 0) (.slice none 0 0) 0 0 (icells D 0) (icells L 0)) := Lib.hid ⟨World.ownsRow_nil _ _ _ _, World.ownsRow_nil _ _ _ _, fun g h => (by cases h), Below.refl _ _, by omega⟩
  go_wp2_with fail
  go_loopw [6, 7, 9, 23] (fun s t u v wr => ∃ i x : Nat, i ≤ k ∧ x ≤ i ∧ v = .int .i64 (i : Int) ∧ u = .int .i64 (x : Int) ∧ Hid (x = againT D i) ∧ Hid (∃ wq, TwoR (gb + 1) wq wr s t i i (icells D i) (icells L i)) ∧ Hid (Lies wr gb 45 (icells (seenI D i) 256)) ∧ Hid (Below lo w wr)) (fun _ _ _ v _ => k - (intOf v).toNat)
  case atStart => exact ⟨0, 0, Nat.zero_le _, Nat.le_refl _, rfl, rfl, Lib.hid rfl, Lib.hid ⟨_, H0.out⟩, HL2, HB2⟩
  case round =>
    clear H0 HL2 HB2 hz hw2
    obtain ⟨i, x, hi, hxi, rfl, rfl, hx, hT, hS, hB⟩ := hrel
    rename World => wl
    by_cases hlt : i < k
    · have hlti : (i : Int) < (k : Int) := by omega
      have hin : (i : Int) < (n : Int) := by omega
      have hin' : (i : Int) < (n' : Int) := by omega
      obtain ⟨ad, rfl, hab, ca, hv⟩ := HO.out.below hB.out i (by omega)
      obtain ⟨ad', rfl, hab', ca', hv'⟩ := HO'.out.below hB.out i (by omega)
      obtain ⟨x0, hx0⟩ : ∃ x0, V i = x0 := ⟨_, rfl⟩
      obtain ⟨y0, hy0⟩ : ∃ y0, V' i = y0 := ⟨_, rfl⟩
      rw [hx0] at ca hv
      rw [hy0] at ca' hv'
      have hDi : D i = (x0 : Int) := by rw [HD.out, ← hx0]
      have hLi : L i = (y0 : Int) := by rw [HL.out, ← hy0]
      have HDi := Lib.hid hDi
      have HLi := Lib.hid hLi
      have hi4 : i ≤ 4194304 := by omega
      obtain ⟨wq, hTq⟩ := hT.out
      have hsz := hTq.sz
      obtain ⟨wd, hwd⟩ : ∃ wd, wl.drew = wd := ⟨_, rfl⟩
      have ex : IntKind.i64.wrap (x0 : Int) = (x0 : Int) := IntWalk.i64_in _ (by omega)
      have ey : IntKind.i64.wrap (y0 : Int) = (y0 : Int) := IntWalk.i64_in _ (by omega)
      have T0 : Hid (TwoR (gb + 1) wd wd u6 u7 i i (icells D i) (icells L i)) := Lib.hid (by rw [← hwd]; exact ⟨hTq.a, hTq.b, hTq.ap, Below.refl _ _, hTq.sz⟩)
      have HS : Hid (∀ W, Below (gb + 1) wd W → W.cell? (ad.add i) = some (.int .u8 (x0 : Int)) ∧ W.cell? (ad'.add i) = some (.int .u8 (y0 : Int))) := Lib.hid (by rw [← hwd]; exact fun W hW => ⟨(hW.cell (by rw [add_block]; omega)).trans ca, (hW.cell (by rw [add_block]; omega)).trans ca'⟩)
      have HS0 : Hid (wl.drew.cell? (ad.add i) = some (.int .u8 (x0 : Int)) ∧ wl.drew.cell? (ad'.add i) = some (.int .u8 (y0 : Int))) := Lib.hid ⟨ca, ca'⟩
      have hmix : Try.prog.follows .mixedOrders = true := by kernel_rfl
      clear hx0 hy0 hDi hLi hTq hT
      go_upto_region 10 with (fail)
      go_cut [6, 7] from 26 to 41 (fun s' t' wx => wx.ownsRow (gb + 1) 3 1 s' (i + 1) (icells D i ++ [.int .i64 (x0 : Int)]) ∧ wx.ownsRow (gb + 1) 3 1 t' (i + 1) (icells L i ++ [.int .i64 (y0 : Int)]) ∧ Apart s' t' ∧ Below (gb + 1) wd wx)
      case first =>
        refine wp_region_noPanic ?_
        refine wp_region_held_drew (S := fun w' => w'.cell? (ad.add i) = some (.int .u8 (x0 : Int)) ∧ w'.cell? (ad'.add i) = some (.int .u8 (y0 : Int))) hmix HS0.out (fun hHeld => ?_)
        clear HS0
        rw [hwd] at hHeld ⊢
        clear hwd
        refine take_at (i := 0) (d := 26) (v := ?_) rfl rfl (by kernel_rfl) (by kernel_rfl) (by kernel_rfl) (fun _ _ _ h => h) (Or.inl ⟨by rfl, ?_⟩) (by assumption) ?_
        rotate_left
        · intro wS hSw
          go_simp
          all_goals with_reducible rfl
        try simp only [Act.put, List.setIfInBounds_toArray, List.set_cons_zero, List.set_cons_succ]
        refine take_at (i := 1) (d := 27) (v := ?_) rfl rfl (by kernel_rfl) (by kernel_rfl) (by kernel_rfl) (fun _ _ _ h => h) (Or.inl ⟨by rfl, ?_⟩) (by assumption) ?_
        rotate_left
        · intro wS hSw
          go_simp
          all_goals with_reducible rfl
        try simp only [Act.put, List.setIfInBounds_toArray, List.set_cons_zero, List.set_cons_succ]
        refine take_at (i := 2) (d := 28) (v := ?_) rfl rfl (by kernel_rfl) (by kernel_rfl) (by kernel_rfl) (fun _ _ _ h => h) (Or.inl ⟨by rfl, ?_⟩) (by assumption) ?_
        rotate_left
        · intro wS hSw
          go_simp
          all_goals with_reducible rfl
        try simp only [Act.put, List.setIfInBounds_toArray, List.set_cons_zero, List.set_cons_succ]
        refine take_at (i := 3) (d := 29) (v := ?_) rfl rfl (by kernel_rfl) (by kernel_rfl) (by kernel_rfl) (fun _ _ _ h => h) (Or.inl ⟨by rfl, ?_⟩) (by assumption) ?_
        rotate_left
        · intro wS hSw
          go_simp
          all_goals with_reducible rfl
        try simp only [Act.put, List.setIfInBounds_toArray, List.set_cons_zero, List.set_cons_succ]
        refine take_at (i := 4) (d := 30) (v := ?_) rfl rfl (by kernel_rfl) (by kernel_rfl) (by kernel_rfl) (fun _ _ _ h => h) (Or.inl ⟨by rfl, ?_⟩) (by assumption) ?_
        rotate_left
        · intro wS hSw
          go_simp
          all_goals with_reducible rfl
        try simp only [Act.put, List.setIfInBounds_toArray, List.set_cons_zero, List.set_cons_succ]
        refine take_at (i := 5) (d := 31) (v := ?_) rfl rfl (by kernel_rfl) (by kernel_rfl) (by kernel_rfl) (fun _ _ _ h => h) (Or.inl ⟨by rfl, ?_⟩) (by assumption) ?_
        rotate_left
        · intro wS hSw
          go_simp
          all_goals with_reducible rfl
        try simp only [Act.put, List.setIfInBounds_toArray, List.set_cons_zero, List.set_cons_succ]
        refine take_at (i := 8) (d := 34) (v := ?_) rfl rfl (by kernel_rfl) (by kernel_rfl) (by kernel_rfl) (fun _ _ _ h => h) (Or.inl ⟨by rfl, ?_⟩) (by assumption) ?_
        rotate_left
        · intro wS hSw
          go_simp
          all_goals with_reducible rfl
        try simp only [Act.put, List.setIfInBounds_toArray, List.set_cons_zero, List.set_cons_succ]
        refine take_at (i := 9) (d := 35) (v := ?_) rfl rfl (by kernel_rfl) (by kernel_rfl) (by kernel_rfl) (fun _ _ _ h => h) (Or.inl ⟨by rfl, ?_⟩) (by assumption) ?_
        rotate_left
        · intro wS hSw
          go_simp
          all_goals with_reducible rfl
        try simp only [Act.put, List.setIfInBounds_toArray, List.set_cons_zero, List.set_cons_succ]
        refine take_at (i := 10) (d := 36) (v := ?_) rfl rfl (by kernel_rfl) (by kernel_rfl) (by kernel_rfl) (fun _ _ _ h => h) (Or.inl ⟨by rfl, ?_⟩) (by assumption) ?_
        rotate_left
        · intro wS hSw
          go_simp
          all_goals with_reducible rfl
        try simp only [Act.put, List.setIfInBounds_toArray, List.set_cons_zero, List.set_cons_succ]
        refine take_at (i := 11) (d := 37) (v := ?_) rfl rfl (by kernel_rfl) (by kernel_rfl) (by kernel_rfl) (fun _ _ _ h => h) (Or.inl ⟨by rfl, ?_⟩) (by assumption) ?_
        rotate_left
        · intro wS hSw
          go_simp
          all_goals with_reducible rfl
        try simp only [Act.put, List.setIfInBounds_toArray, List.set_cons_zero, List.set_cons_succ]
        refine take_at (i := 12) (d := 38) (v := ?_) rfl rfl (by kernel_rfl) (by kernel_rfl) (by kernel_rfl) (fun _ _ _ h => h) (Or.inl ⟨by rfl, ?_⟩) (by assumption) ?_
        rotate_left
        · intro wS hSw
          go_simp
          all_goals with_reducible rfl
        try simp only [Act.put, List.setIfInBounds_toArray, List.set_cons_zero, List.set_cons_succ]
        refine take_at (i := 13) (d := 39) (v := ?_) rfl rfl (by kernel_rfl) (by kernel_rfl) (by kernel_rfl) (fun _ _ _ h => h) (Or.inl ⟨by rfl, ?_⟩) (by assumption) ?_
        rotate_left
        · intro wS hSw
          go_simp
          all_goals with_reducible rfl
        try simp only [Act.put, List.setIfInBounds_toArray, List.set_cons_zero, List.set_cons_succ]
        refine wpAnyH_ready (rs := [6, 14]) (by kernel_rfl) (by simp) ?_
        refine AllReadyH.cons rfl (fun K hK => ?_) (AllReadyH.cons rfl (fun K hK => ?_) AllReadyH.nil)
        · have T1 := Lib.hid (T0.out.alloc (.cells #[.int .i64 (x0 : Int)] 3))
          have E1_6 := Lib.hid (T0.out.elem (x0 : Int) (wd.heap.size) (by first | rfl | exact size_alloc _ _))
          go_simp
          refine hK.out _ _ (HS.out _ T1.out.be) (fun hHeld => ?_)
          clear hK K
          try simp only [Act.put, List.setIfInBounds_toArray, List.set_cons_zero, List.set_cons_succ]
          refine wpAnyH_ready (rs := [7, 14]) (by kernel_rfl) (by simp) ?_
          refine AllReadyH.cons rfl (fun K hK => ?_) (AllReadyH.cons rfl (fun K hK => ?_) AllReadyH.nil)
          · refine held_append_int 33 rfl rfl (.tmp 26) (.tmp 32) rfl rfl T1.out.a rfl E1_6.out.1 T1.out.sz hi4 ?_
            intro g2 k2 w102 o2 p2 q2
            have T2 := Lib.hid (T1.out.one o2 p2 q2)
            refine hK.out _ _ (HS.out _ T2.out.be) (fun hHeld => ?_)
            clear hK K
            try simp only [Act.put, List.setIfInBounds_toArray, List.set_cons_zero, List.set_cons_succ]
            refine wpAnyH_ready (rs := [14]) (by kernel_rfl) (by simp) ?_
            refine AllReadyH.cons rfl (fun K hK => ?_) AllReadyH.nil
            have T3 := Lib.hid (T2.out.alloc (.cells #[.int .i64 (y0 : Int)] 3))
            have E3_14 := Lib.hid (T2.out.elem (y0 : Int) (w102.heap.size) (by first | rfl | exact size_alloc _ _))
            go_simp
            refine hK.out _ _ (HS.out _ T3.out.be) (fun hHeld => ?_)
            clear hK K
            try simp only [Act.put, List.setIfInBounds_toArray, List.set_cons_zero, List.set_cons_succ]
            refine wpAnyH_ready (rs := [15]) (by kernel_rfl) (by simp) ?_
            refine AllReadyH.cons rfl (fun K hK => ?_) AllReadyH.nil
            refine held_append_int 41 rfl rfl (.tmp 34) (.tmp 40) rfl rfl T3.out.b rfl E3_14.out.1 T3.out.sz hi4 ?_
            intro g4 k4 w104 o4 p4 q4
            have T4 := Lib.hid (T3.out.two o4 p4 q4)
            refine hK.out _ _ (HS.out _ T4.out.be) (fun hHeld => ?_)
            clear hK K
            try simp only [Act.put, List.setIfInBounds_toArray, List.set_cons_zero, List.set_cons_succ]
            refine take_at (i := 16) (d := 6) (v := ?_) rfl rfl (by kernel_rfl) (by kernel_rfl) (by kernel_rfl) (fun _ _ _ h => h) (Or.inl ⟨by rfl, ?_⟩) (by assumption) ?_
            rotate_left
            · intro wS hSw
              go_simp
              all_goals with_reducible rfl
            try simp only [Act.put, List.setIfInBounds_toArray, List.set_cons_zero, List.set_cons_succ]
            refine take_at (i := 17) (d := 7) (v := ?_) rfl rfl (by kernel_rfl) (by kernel_rfl) (by kernel_rfl) (fun _ _ _ h => h) (Or.inl ⟨by rfl, ?_⟩) (by assumption) ?_
            rotate_left
            · intro wS hSw
              go_simp
              all_goals with_reducible rfl
            try simp only [Act.put, List.setIfInBounds_toArray, List.set_cons_zero, List.set_cons_succ]
            refine wpAnyH_done (by kernel_rfl) ?_ _
            refine NoPanic.normal ?_
            go_wp2_with fail
            go_meet
            exact ⟨T4.out.a, T4.out.b, T4.out.ap, T4.out.be⟩
          · have T5 := Lib.hid (T1.out.alloc (.cells #[.int .i64 (y0 : Int)] 3))
            have E5_6 := Lib.hid (E1_6.out.alloc (.cells #[.int .i64 (y0 : Int)] 3))
            have E5_14 := Lib.hid (T1.out.elem (y0 : Int) (wd.heap.size + 1) (by first | rfl | exact size_alloc _ _))
            go_simp
            refine hK.out _ _ (HS.out _ T5.out.be) (fun hHeld => ?_)
            clear hK K
            try simp only [Act.put, List.setIfInBounds_toArray, List.set_cons_zero, List.set_cons_succ]
            refine wpAnyH_ready (rs := [7]) (by kernel_rfl) (by simp) ?_
            refine AllReadyH.cons rfl (fun K hK => ?_) AllReadyH.nil
            refine held_append_int 33 rfl rfl (.tmp 26) (.tmp 32) rfl rfl T5.out.a rfl E5_6.out.1 T5.out.sz hi4 ?_
            intro g6 k6 w106 o6 p6 q6
            have T6 := Lib.hid (T5.out.one o6 p6 q6)
            have E6_14 := Lib.hid (E5_14.out.one (m := i + 1) (c := k6) p6 q6)
            refine hK.out _ _ (HS.out _ T6.out.be) (fun hHeld => ?_)
            clear hK K
            try simp only [Act.put, List.setIfInBounds_toArray, List.set_cons_zero, List.set_cons_succ]
            refine wpAnyH_ready (rs := [15]) (by kernel_rfl) (by simp) ?_
            refine AllReadyH.cons rfl (fun K hK => ?_) AllReadyH.nil
            refine held_append_int 41 rfl rfl (.tmp 34) (.tmp 40) rfl rfl T6.out.b rfl E6_14.out.1 T6.out.sz hi4 ?_
            intro g7 k7 w107 o7 p7 q7
            have T7 := Lib.hid (T6.out.two o7 p7 q7)
            refine hK.out _ _ (HS.out _ T7.out.be) (fun hHeld => ?_)
            clear hK K
            try simp only [Act.put, List.setIfInBounds_toArray, List.set_cons_zero, List.set_cons_succ]
            refine take_at (i := 16) (d := 6) (v := ?_) rfl rfl (by kernel_rfl) (by kernel_rfl) (by kernel_rfl) (fun _ _ _ h => h) (Or.inl ⟨by rfl, ?_⟩) (by assumption) ?_
            rotate_left
            · intro wS hSw
              go_simp
              all_goals with_reducible rfl
            try simp only [Act.put, List.setIfInBounds_toArray, List.set_cons_zero, List.set_cons_succ]
            refine take_at (i := 17) (d := 7) (v := ?_) rfl rfl (by kernel_rfl) (by kernel_rfl) (by kernel_rfl) (fun _ _ _ h => h) (Or.inl ⟨by rfl, ?_⟩) (by assumption) ?_
            rotate_left
            · intro wS hSw
              go_simp
              all_goals with_reducible rfl
            try simp only [Act.put, List.setIfInBounds_toArray, List.set_cons_zero, List.set_cons_succ]
            refine wpAnyH_done (by kernel_rfl) ?_ _
            refine NoPanic.normal ?_
            go_wp2_with fail
            go_meet
            exact ⟨T7.out.a, T7.out.b, T7.out.ap, T7.out.be⟩
        · have T8 := Lib.hid (T0.out.alloc (.cells #[.int .i64 (y0 : Int)] 3))
          have E8_14 := Lib.hid (T0.out.elem (y0 : Int) (wd.heap.size) (by first | rfl | exact size_alloc _ _))
          go_simp
          refine hK.out _ _ (HS.out _ T8.out.be) (fun hHeld => ?_)
          clear hK K
          try simp only [Act.put, List.setIfInBounds_toArray, List.set_cons_zero, List.set_cons_succ]
          refine wpAnyH_ready (rs := [6]) (by kernel_rfl) (by simp) ?_
          refine AllReadyH.cons rfl (fun K hK => ?_) AllReadyH.nil
          have T9 := Lib.hid (T8.out.alloc (.cells #[.int .i64 (x0 : Int)] 3))
          have E9_14 := Lib.hid (E8_14.out.alloc (.cells #[.int .i64 (x0 : Int)] 3))
          have E9_6 := Lib.hid (T8.out.elem (x0 : Int) (wd.heap.size + 1) (by first | rfl | exact size_alloc _ _))
          go_simp
          refine hK.out _ _ (HS.out _ T9.out.be) (fun hHeld => ?_)
          clear hK K
          try simp only [Act.put, List.setIfInBounds_toArray, List.set_cons_zero, List.set_cons_succ]
          refine wpAnyH_ready (rs := [7]) (by kernel_rfl) (by simp) ?_
          refine AllReadyH.cons rfl (fun K hK => ?_) AllReadyH.nil
          refine held_append_int 33 rfl rfl (.tmp 26) (.tmp 32) rfl rfl T9.out.a rfl E9_6.out.1 T9.out.sz hi4 ?_
          intro g10 k10 w110 o10 p10 q10
          have T10 := Lib.hid (T9.out.one o10 p10 q10)
          have E10_14 := Lib.hid (E9_14.out.one (m := i + 1) (c := k10) p10 q10)
          refine hK.out _ _ (HS.out _ T10.out.be) (fun hHeld => ?_)
          clear hK K
          try simp only [Act.put, List.setIfInBounds_toArray, List.set_cons_zero, List.set_cons_succ]
          refine wpAnyH_ready (rs := [15]) (by kernel_rfl) (by simp) ?_
          refine AllReadyH.cons rfl (fun K hK => ?_) AllReadyH.nil
          refine held_append_int 41 rfl rfl (.tmp 34) (.tmp 40) rfl rfl T10.out.b rfl E10_14.out.1 T10.out.sz hi4 ?_
          intro g11 k11 w111 o11 p11 q11
          have T11 := Lib.hid (T10.out.two o11 p11 q11)
          refine hK.out _ _ (HS.out _ T11.out.be) (fun hHeld => ?_)
          clear hK K
          try simp only [Act.put, List.setIfInBounds_toArray, List.set_cons_zero, List.set_cons_succ]
          refine take_at (i := 16) (d := 6) (v := ?_) rfl rfl (by kernel_rfl) (by kernel_rfl) (by kernel_rfl) (fun _ _ _ h => h) (Or.inl ⟨by rfl, ?_⟩) (by assumption) ?_
          rotate_left
          · intro wS hSw
            go_simp
            all_goals with_reducible rfl
          try simp only [Act.put, List.setIfInBounds_toArray, List.set_cons_zero, List.set_cons_succ]
          refine take_at (i := 17) (d := 7) (v := ?_) rfl rfl (by kernel_rfl) (by kernel_rfl) (by kernel_rfl) (fun _ _ _ h => h) (Or.inl ⟨by rfl, ?_⟩) (by assumption) ?_
          rotate_left
          · intro wS hSw
            go_simp
            all_goals with_reducible rfl
          try simp only [Act.put, List.setIfInBounds_toArray, List.set_cons_zero, List.set_cons_succ]
          refine wpAnyH_done (by kernel_rfl) ?_ _
          refine NoPanic.normal ?_
          go_wp2_with fail
          go_meet
          exact ⟨T11.out.a, T11.out.b, T11.out.ap, T11.out.be⟩
      case rest =>
      obtain ⟨hs, ht, hap, hbx⟩ := hcut
      have hW1 : Below (gb + 1) wl wc := ⟨by rw [← hwd] at hbx; exact hbx.os, by rw [← hwd] at hbx; exact hbx.tape, by rw [← hwd] at hbx; exact hbx.output, by rw [← hwd] at hbx; exact hbx.size, by rw [← hwd] at hbx; exact hbx.block⟩
      have hS1 := hS.out.below hW1 (by omega)
      have HB1 : Hid (Below lo w wc) := Lib.hid (hB.out.trans (hW1.mono (by omega)))
      have hca : wc.cell? (ad.add i) = some (.int .u8 (x0 : Int)) := (hW1.cell (by rw [add_block]; omega)).trans ca
      have hsx : wc.cell? ⟨gb, x0, none⟩ = some (.int .i64 (seenI D i x0)) := by
        rw [hS1.cell]
        exact icells_at _ _ _ hv
      have hfx := hS1.free x0
      have hag := againT_succ D i
      rw [seenI_at HDi.out] at hsx
      have hszc : gb + 1 ≤ wc.heap.size := Nat.le_trans hsz hW1.size
      have HS2 : Hid (Lies (wc.setCell ⟨gb, x0, none⟩ (.int .i64 1)) gb 45 (icells (seenI D (i + 1)) 256)) := Lib.hid (by
        have h := hS1.put x0 (.int .i64 1)
        rw [icells_put] at h
        rw [icells_congr (U := seenI D (i + 1)) (U' := fun j => if j = x0 then 1 else seenI D i j) (fun j _ => seenI_next HDi.out j)]
        exact h)
      have HB2 : Hid (Below lo w (wc.setCell ⟨gb, x0, none⟩ (.int .i64 1))) := Lib.hid (HB1.out.setCell (p := ⟨gb, x0, none⟩) hlg _)
      rw [← HDi.out, ← icells_snoc] at hs
      rw [← HLi.out, ← icells_snoc] at ht
      have hT2 : TwoR (gb + 1) wd wc _ _ (i + 1) (i + 1) (icells D (i + 1)) (icells L (i + 1)) := ⟨hs, ht, hap, hbx, hszc⟩
      have HT2 := Lib.hid (⟨_, hT2.far (a := ⟨gb, x0, none⟩) (Nat.lt_succ_self gb) (.int .i64 1)⟩ : ∃ wq, TwoR (gb + 1) wq (wc.setCell ⟨gb, x0, none⟩ (.int .i64 1)) _ _ (i + 1) (i + 1) (icells D (i + 1)) (icells L (i + 1)))
      have hx0n : (x0 : Int) < 256 := by omega
      have hx0n' : x0 < 256 := hv
      have i1 : IntKind.i64.wrap ((i : Int) + 1) = ((i + 1 : Nat) : Int) := by rw [IntWalk.i64_in _ (by omega)]; omega
      have hvars : x0 ≤ 255 := by omega
      clear hs ht hap hbx hW1 hS1 hT2 hwd hS hB HS T0
      by_cases hseen : 0 ≤ lastD D i
      · rw [if_pos hseen] at hsx hag
        have HX2 : Hid (x + 1 = againT D (i + 1)) := Lib.hid (by rw [hag, ← hx.out])
        have xw : IntKind.i64.wrap ((x : Int) + 1) = ((x + 1 : Nat) : Int) := by rw [IntWalk.i64_in _ (by omega)]; omega
        clear hag hx hseen
        go_wp2_with fail
        go_roundw
        case rel => exact ⟨i + 1, x + 1, by omega, by omega, by go_num, by go_num, HX2, HT2, HS2, HB2⟩
        case measure => simp [intOf]; omega
      · rw [if_neg hseen] at hsx hag
        have HX2 : Hid (x = againT D (i + 1)) := Lib.hid (by rw [hag, ← hx.out, Nat.add_zero])
        have xw : IntKind.i64.wrap ((x : Int) + 0) = (x : Int) := by rw [IntWalk.i64_in _ (by omega)]; omega
        have xw' : IntKind.i64.wrap (x : Int) = (x : Int) := IntWalk.i64_in _ (by omega)
        clear hag hx hseen
        go_wp2_with fail
        go_roundw
        case rel => exact ⟨i + 1, x, by omega, by omega, by go_num, by go_num, HX2, HT2, HS2, HB2⟩
        case measure => simp [intOf]; omega
    · obtain rfl : i = k := by omega
      have hge : ¬ (i : Int) < (i : Int) := by omega
      obtain ⟨wq, hTq⟩ := hT.out
      obtain ⟨Ad, cd, e6, hId⟩ := ItsR.of_own hTq.a (fun j hj => by rw [HD.out]; have := (HDV.out j hj).2; show -9223372036854775808 ≤ ((V j : Nat) : Int) ∧ ((V j : Nat) : Int) ≤ 9223372036854775807; omega)
      obtain ⟨Al, cl, e7, hIl⟩ := ItsR.of_own hTq.b (fun j hj => by rw [HL.out]; have := HLV.out j hj; show -9223372036854775808 ≤ ((V' j : Nat) : Int) ∧ ((V' j : Nat) : Int) ≤ 9223372036854775807; omega)
      subst e6
      subst e7
      have HN := Lib.hid (HI.out.new Ad i cd D Al i cl L wl (by omega) (by omega) hId hIl)
      clear hTq hT hId hIl hS
      go_wp2_with fail
      refine HN.out.mono ?_
      rintro e w3 ⟨h1, _, hb3⟩
      obtain ⟨v, rfl, hAt⟩ := h1 (by trivial)
      obtain ⟨pa, rfl⟩ := HI.out.ptr hAt
      have HB3 := Lib.hid (below_up hlo hB.out hb3)
      have HA3 := Lib.hid hAt
      clear h1 hAt hb3 HN hB
      go_wp2_with fail
      go_loopw [13, 63] (fun s t wr => ∃ j y : Nat, j ≤ i ∧ y ≤ 200 * j ∧ t = .int .i64 (j : Int) ∧ s = .int .i64 (y : Int) ∧ Hid (y = sumD (dblT D L i) 0 j) ∧ Hid (Below lo w wr) ∧ Hid (Below w3.heap.size w3 wr)) (fun _ t _ => i - (intOf t).toNat)
      case atStart => exact ⟨0, 0, Nat.zero_le _, by omega, rfl, rfl, Lib.hid rfl, HB3, Lib.hid (Below.refl _ _)⟩
      case round =>
        clear HB3
        obtain ⟨j, y, hj, hy, rfl, rfl, hs, hB, hb⟩ := hrel
        have HA4 := Lib.hid (HI.out.keep HA3.out hb.out)
        by_cases hlt2 : j < i
        · have hltI : (j : Int) < (i : Int) := by omega
          have H1 := HI.out.doubles _ _ _ _ _ (j : Int) _ (WalkArith.wf_i64 (show -9223372036854775808 ≤ (j : Int) ∧ (j : Int) ≤ 9223372036854775807 by omega)) HA4.out
          rw [dblAt_in hlt2] at H1
          have hd := dblT_le D L i j
          have HN : Hid (y + dblT D L i j = sumD (dblT D L i) 0 (j + 1)) := Lib.hid (by
            show _ = sumD (dblT D L i) 0 j + dblT D L i (0 + j)
            rw [← hs.out, Nat.zero_add])
          generalize dblT D L i j = d at H1 hd HN
          have H1 := Lib.hid H1
          have yw : IntKind.i64.wrap ((y : Int) + (d : Int)) = ((y + d : Nat) : Int) := by rw [IntWalk.i64_in _ (by omega)]; omega
          clear hs
          go_wp2_with (go_at_call 10; (with_reducible refine H1.out.mono ?_); rintro e w5 ⟨rfl, hb5⟩)
          go_roundw
          case rel => exact ⟨j + 1, y + d, by omega, by omega, by go_num, by go_num, HN, Lib.hid (below_up hlo hB.out hb5), Lib.hid (hb.out.trans (hb5.mono hb.out.size))⟩
          case measure => simp [intOf]; omega
        · obtain rfl : j = i := by omega
          have hge2 : ¬ (j : Int) < (j : Int) := by omega
          have hyx : y = x := by rw [hs.out, sum_again, ← hx.out]
          subst hyx
          have q1 : ((y : Int) == (y : Int)) = true := by rw [beq_iff_eq]
          have H1 := HI.out.doubles _ _ _ _ _ 0 _ (by decide) HA4.out
          have e0 : dblAt D L j 0 = 0 := by
            unfold dblAt
            split
            · rw [show (0 : Int).toNat = 0 from rfl, dblT_zero]; rfl
            · rfl
          rw [e0] at H1
          have H1 := Lib.hid H1
          have hwf := WalkArith.wf_i64 (show -9223372036854775808 ≤ (j : Int) ∧ (j : Int) ≤ 9223372036854775807 by omega)
          have HD5 := Lib.hid (docsI_whole D L j)
          have yw : IntKind.i64.wrap ((j : Int) - (y : Int)) = (j : Int) - (y : Int) := IntWalk.i64_in _ (by omega)
          have q2 : (((j : Int) - (y : Int)) == ((j : Int) - (y : Int))) = true := by rw [beq_iff_eq]
          have HX : Hid (docsI D L j 0 (j : Int) = (j : Int) - (y : Int)) := Lib.hid (by rw [HD5.out, ← hx.out])
          clear hs hx HD5 hb e0
          go_wp2_with fail
          refine H1.out.mono ?_
          rintro e w5 ⟨rfl, hb5⟩
          have HB5 := Lib.hid (below_up hlo hB.out hb5)
          have H2 := HI.out.docs _ _ _ _ _ 0 (j : Int) _ (by decide) hwf (HI.out.keep HA4.out hb5)
          rw [HX.out] at H2
          have H2 := Lib.hid H2
          clear hb5 H1 hB HX
          go_wp2_with fail
          refine H2.out.mono ?_
          rintro e w6 ⟨rfl, hb6⟩
          have HB6 := Lib.hid (below_up hlo HB5.out hb6)
          clear hb6 H2 HB5
          go_wp2_with fail
          go_ret
          exact ⟨rfl, HB6.out⟩
end
end Go.Proofs.Ytoeamldadclodaa
