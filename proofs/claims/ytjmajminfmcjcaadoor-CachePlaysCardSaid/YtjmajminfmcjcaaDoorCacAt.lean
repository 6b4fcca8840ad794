/- The developers' cache, as the laws see it: CacAt; the laws' own making of an image and a cache (made). -/
import Derived.Test.YtjmajminfmcjcaaDoorCacTake
import Derived.Test.YtjmajminfmcjcaaDoorCacTasks
import Derived.Test.YtjmajminfmcjcaaDoorTurned
namespace Go.Proofs.YtjmajminfmcjcaaDoor
open Go.RowKit

/-- a cache lies at v, all of it in blocks that fp names. -/
def CacAt (fp : Nat → Prop) (w : World) (v : Value) (c : CS) (L : List Sec) : Prop :=
  ∃ rd g gs img D, v = .pointer (some ⟨g, 0, none⟩) ∧ CC rd w g gs img D c L ∧ (∀ k, fp k ↔ (rd k ∨ k = g ∨ k = gs)) ∧ Fits L
/-- nothing but the cache has turned. -/
def Only (fp : Nat → Prop) : World → World → Prop := Off fun k => ¬ fp k

section
variable {fp : Nat → Prop} {w w' : World} {v : Value} {c : CS} {L : List Sec}
theorem CacAt.ptr (h : CacAt fp w v c L) : ∃ a, v = .pointer (some a) := by
  obtain ⟨_, _, _, _, _, h1, _⟩ := h
  exact ⟨_, h1⟩
theorem CacAt.lt (h : CacAt fp w v c L) {k : Nat} (hk : fp k) : k < w.heap.size := by
  obtain ⟨_, _, _, _, _, _, h2, h3, _⟩ := h
  exact h2.within ((h3 k).1 hk)
theorem CacAt.keepOn (h : CacAt fp w v c L) (hs : w.heap.size ≤ w'.heap.size) (hb : ∀ k, fp k → w'.heap[k]? = w.heap[k]?) : CacAt fp w' v c L := by
  obtain ⟨rd, g, gs, img, D, h1, h2, h3, h4⟩ := h
  exact ⟨rd, g, gs, img, D, h1, h2.keepOn hs fun k hk => hb k ((h3 k).2 hk), h3, h4⟩
theorem CacAt.keep (h : CacAt fp w v c L) (hb : Below w.heap.size w w') : CacAt fp w' v c L := h.keepOn hb.size fun k hk => hb.block k (h.lt hk)
theorem CacAt.far (h : CacAt fp w v c L) {p : Addr} (hp : ¬ fp p.block) (u : Value) : CacAt fp (w.setCell p u) v c L :=
  h.keepOn (by simp [World.setCell]) fun k hk => Below.heap_setCell w p u k (fun e => hp (e ▸ hk))
/-- another's turn. -/
theorem CacAt.aside (h : CacAt fp w v c L) {fq : Nat → Prop} (ho : Only fq w w') (hd : ∀ k, fp k → ¬ fq k) : CacAt fp w' v c L := h.keepOn ho.size fun k hk => ho.block k (h.lt hk) (hd k hk)
theorem CacAt.facts (h : CacAt fp w v c L) : c.hand < c.F.length ∧ c.F.length ≤ 4096 ∧ Unlike c.F ∧ Paged c.F c.n ∧ c.n = allPages L ∧ Fits L := by
  obtain ⟨_, _, _, _, _, _, h2, _, h4⟩ := h
  exact ⟨h2.hand, h2.few, h2.unlike, h2.paged, h2.pages, h4⟩

def HoldAt (fp : Nat → Prop) (w : World) (v : Value) (c : CS) (L : List Sec) (x : Int) (e : Ending) (w' : World) : Prop :=
  ∃ (fp' : Nat → Prop) (u : Value) (B : Nat), e = .returned (.tuple #[u, .bool (holdR c x).2.1, .int .i64 ((holdR c x).2.2 : Int)]) ∧ CacAt fp' w' v (holdR c x).1 L ∧ (∀ k, fp' k → fp k ∨ w.heap.size ≤ k) ∧ Only fp w w' ∧ w.heap.size ≤ B ∧ (∀ k, fp' k → k < B) ∧
    ((holdR c x).2.2 = 0 → w'.ownsRow B 5 1 u 256 (ycells (fun k => imageOf L (264 * x.toNat + k)) 256)) ∧ ((holdR c x).2.2 ≠ 0 → u = .slice none 0 0)
theorem atHold (h : CacAt fp w v c L) (hq : Calm c) (x : Int) : Calls Tryd.prog 10 #[v, .int .i64 x] w (HoldAt fp w v c L x) := by
  obtain ⟨rd, g, gs, img, D, rfl, h2, h3, h4⟩ := h
  refine (cacheHold_any h2 hq h4 x).mono ?_
  rintro e w' ⟨rd', D', u, B, rfl, i2, i3, i4, i5, i6, i7, i8⟩
  have hg := h2.head.lt
  have hgs := h2.body.lt
  refine ⟨fun k => rd' k ∨ k = g ∨ k = gs, u, B, rfl, ⟨rd', g, gs, img, D', rfl, i2, fun k => Iff.rfl, h4⟩, fun k hk => ?_, i4.less fun k hk => ⟨fun e => hk ((h3 k).2 (.inr (.inl e))), fun e => hk ((h3 k).2 (.inr (.inr e)))⟩, i5, fun k hk => ?_, i7, i8⟩
  · rcases hk with hk | hk
    · exact (i3 k hk).imp (fun h => (h3 k).2 (.inl h)) id
    · exact .inl ((h3 k).2 (.inr hk))
  · rcases hk with hk | rfl | rfl
    · exact i6 k hk
    · omega
    · omega
theorem atDrop (h : CacAt fp w v c L) (hq : Calm c) (x : Int) : Calls Tryd.prog 12 #[v, .int .i64 x] w fun e w' => e = .returned (.bool (dropR c x).2) ∧ CacAt fp w' v (dropR c x).1 L ∧ Only fp w w' := by
  obtain ⟨rd, g, gs, img, D, rfl, h2, h3, h4⟩ := h
  refine (cacheDrop_any h2 hq.held x).mono ?_
  rintro e w' ⟨rfl, ⟨D', i2⟩, i3⟩
  exact ⟨rfl, ⟨rd, g, gs, img, D', rfl, i2, h3, h4⟩, i3.less fun k hk => ⟨fun e => hk ((h3 k).2 (.inr (.inl e))), fun e => hk ((h3 k).2 (.inr (.inr e)))⟩⟩
theorem atHas (h : CacAt fp w v c L) (x : Int) : Calls Tryd.prog 14 #[v, .int .i64 x] w fun e w' => e = .returned (.bool (hasR c x)) ∧ Below w.heap.size w w' := by
  obtain ⟨rd, g, gs, img, D, rfl, h2, h3, h4⟩ := h
  exact cacheHas_any h2 x
/-- Stats as a value. -/
def statsV (c : CS) : Value := .agg #[.int .i64 (c.hits : Int), .int .i64 (c.misses : Int), .int .i64 (heldN c.F : Int), .int .i64 (pinnedN c.F : Int)]
theorem atStats (h : CacAt fp w v c L) : Calls Tryd.prog 15 #[v] w fun e w' => e = .returned (statsV c) ∧ Below w.heap.size w w' := by
  obtain ⟨rd, g, gs, img, D, rfl, h2, h3, h4⟩ := h
  exact cacheStats_any h2
end

/-! What the laws make. -/
def madeV (k : Nat) : Nat := if k % 256 = 0 then k / 256 + 1 else 0
def madeS (N : Nat) : List Sec := [⟨256 * N, madeV⟩]
theorem madeS_all (N : Nat) : allPages (madeS N) = N + 1 := by
  simp [madeS, allPages, startAt, ahead, pgs]
  omega
theorem madeS_byte {N p : Nat} (h1 : 1 ≤ p) (h2 : p ≤ N) : imageOf (madeS N) (264 * p) = p := by
  have h := sec_byte (madeS N) 0 ⟨256 * N, madeV⟩ (256 * (p - 1)) rfl (by show 256 * (p - 1) < 256 * ((256 * N + 255) / 256); omega)
  have e : place (startAt (madeS N) 0) (256 * (p - 1)) = 264 * p := by
    show place (1 + 0) _ = _
    unfold place
    omega
  rw [e] at h
  rw [h]
  unfold padded madeV
  dsimp only
  rw [if_pos (by omega), if_pos (by omega)]
  omega
theorem madeV_lt {N k : Nat} (hN : N ≤ 20) (hk : k < 256 * N) : madeV k < 256 := by
  unfold madeV
  split <;> omega
theorem madeS_fits {N : Nat} (hN : N ≤ 20) : Fits (madeS N) := ⟨by show 1 ≤ 60; decide, by rw [madeS_all]; omega, fun x hx k hk => by
  have : x = ⟨256 * N, madeV⟩ := by simpa [madeS] using hx
  subst this
  exact madeV_lt hN hk⟩
/-- a page of it. -/
def pgV (i : Nat) : Nat → Nat := fun k => if 0 = k then i + 1 else 0
theorem both_made (i : Nat) : ycells (both madeV (pgV i) (256 * i)) (256 * i + 256) = ycells madeV (256 * (i + 1)) := by
  rw [show 256 * (i + 1) = 256 * i + 256 by omega]
  refine ycells_congr fun k hk => ?_
  unfold both pgV madeV
  split
  · rfl
  · split
    · rw [if_pos (by omega)]
      omega
    · rw [if_neg (by omega)]
theorem zero_bytes : madeCells (Value.int .u8 0).cells (256 * 1) = (ycells (fun _ => 0) 256).toArray := by
  apply Array.ext'
  simp [madeCells, ycells, Value.cells, Array.toList_range]
  intro i h1
  simp [Nat.mod_one]
theorem make_256 (W : World) : (Instr.makeSlice 31 (.int .i64 256) (.int .i64 256)).run Tryd.prog W = .ok (.slice (some ⟨W.heap.size, 0, none⟩) 256 256) (W.alloc (.cells (ycells (fun _ => 0) 256).toArray 5)) := by
  obtain ⟨i, hi, hz, hs, hb⟩ := info_parts info_u8
  have h := run_make (P := Tryd.prog) W 31 5 i _ Tryd.underlying31 hi hz .i64 .i64 256 256 (by omega) (by omega) (by rw [hb]; omega) (by omega)
  rw [h, hs]
  have e : (256 : Int).toNat = 256 := rfl
  rw [e, zero_bytes]

def MadePost (w : World) (N : Nat) (x : Int) (e : Ending) (w' : World) : Prop :=
  ((1 ≤ x ∧ x ≤ 4096) → ∃ v fp L, e = .returned v ∧ CacAt fp w' v (newC (N + 1) x.toNat) L ∧ (∀ k, fp k → w.heap.size ≤ k) ∧ (∀ k, k < 264 * (N + 1) → imageOf L k = imageOf (madeS N) k)) ∧
  (¬ (1 ≤ x ∧ x ≤ 4096) → e = .returned (.pointer none)) ∧ Below w.heap.size w w'
set_option maxRecDepth 100000 in
set_option maxHeartbeats 3200000 in
theorem made_any (N : Nat) (hN : 1 ≤ N ∧ N ≤ 20) (x : Int) (w : World) (ht : Tabs w) : Calls Tryd.prog 8 #[.int .i64 (N : Int), .int .i64 x] w (MadePost w N x) := by
  have HT := Lib.hid ht
  clear ht
  go_enter Tryd.func8, Tryd.ntmps8
  go_wp2_with fail
  go_loopw [5, 15] (fun o v wr => ∃ i : Nat, i ≤ N ∧ v = .int .i64 (i : Int) ∧ Hid (wr.ownsRow w.heap.size 5 1 o (256 * i) (ycells madeV (256 * i))) ∧ Below w.heap.size w wr) (fun _ v _ => N - (intOf v).toNat)
  case atStart => exact ⟨0, Nat.zero_le _, rfl, Lib.hid (World.ownsRow_nil w _ _ _), Below.refl _ _⟩
  case round =>
    obtain ⟨i, hi, rfl, hrow, hb⟩ := hrel
    have hbs := hb.size
    by_cases hlt : i < N
    · have hlti : (i : Int) < (N : Int) := by omega
      have hmk := make_256 wr
      obtain ⟨W1, hW1⟩ : ∃ W, wr.alloc (.cells (ycells (fun _ => 0) 256).toArray 5) = W := ⟨_, rfl⟩
      have hl := lies_new wr 5 (ycells (fun _ => 0) 256)
      have hbW : Below wr.heap.size wr W1 := by rw [← hW1]; exact (Below.refl _ _).alloc (Nat.le_refl _) _
      rw [hW1] at hmk hl
      obtain ⟨b0, hb0⟩ : ∃ b, wr.heap.size = b := ⟨_, rfl⟩
      rw [hb0] at hmk hl hbW
      have c0 : W1.cell? ⟨b0, 0, none⟩ = some (.int .u8 0) := hl.cell 0
      have cf : ∀ z, W1.frozen? ⟨b0, z, none⟩ = false := fun z => hl.free z
      have hwi : IntKind.u8.wrap ((i : Int) + 1) = (i : Int) + 1 := by rw [IntKind.wrap_u8]; omega
      have hl2 := hl.put 0 (.int .u8 ((i : Int) + 1))
      have e2 : (ycells (fun _ => 0) 256).set 0 (.int .u8 ((i : Int) + 1)) = ycells (pgV i) 256 := ycells_put (fun _ => 0) 256 0 (i + 1)
      rw [e2] at hl2
      obtain ⟨W2, hW2⟩ : ∃ W, W1.setCell ⟨b0, 0, none⟩ (.int .u8 ((i : Int) + 1)) = W := ⟨_, rfl⟩
      rw [hW2] at hl2
      have hbW2 : Below b0 wr W2 := by rw [← hW2]; exact hbW.setCell (p := ⟨b0, 0, none⟩) (Nat.le_refl _) _
      have hrow2 := Lib.hid (ownsRow_keep hrow.out (by rw [hb0]; exact hbW2))
      have HBy : Hid (Bys W2 W2.heap.size (some ⟨b0, 0, none⟩) 256 (pgV i)) := Lib.hid fun k hk => ⟨⟨b0, 0, none⟩, rfl, hl2.lt, by rw [Addr.add_mid, Nat.zero_add, hl2.cell]; exact ycells_at _ _ k hk, by unfold pgV; split <;> omega⟩
      have hB2 := hb.trans (hbW2.mono (by omega))
      have hs2 := hB2.size
      have HW1 := Lib.hid hW1
      have HW2 := Lib.hid hW2
      clear hl hl2 hbW hbW2 e2
      go_wp2_with (at_builtin; refine step_append_bytes rfl (.tmp 24) (.tmp 25) rfl rfl hrow2.out rfl (fun e => (by cases e)) HBy.out hs2 (by omega) ?_; intro v3 w3 hown3 hb3)
      rw [ycells_both, both_made] at hown3
      go_roundw
      case rel => exact ⟨i + 1, by omega, by go_num, hown3, hB2.trans (hb3.mono (Nat.le_refl _))⟩
      case measure => simp [intOf]; omega
    · obtain rfl : i = N := by omega
      have hfit := madeS_fits hN.2
      obtain ⟨A, ca, rfl, hAc, hAn, hpart⟩ := own_cut hrow.out (Nat.le_refl _) (fun k hk => madeV_lt hN.2 hk)
      obtain ⟨h1, h2, h3, h4⟩ := hpart.bys
      obtain ⟨W1, hW1⟩ : ∃ W, wr.alloc (.cells #[.slice A (256 * i : Nat) ca] 31) = W := ⟨_, rfl⟩
      have hbW : Below wr.heap.size wr W1 := by rw [← hW1]; exact (Below.refl _ _).alloc (Nat.le_refl _) _
      have hl : Lies W1 wr.heap.size 31 [.slice A (256 * i : Nat) ca] := by rw [← hW1]; exact lies_new wr _ _
      have hsec : Secs W1 W1.heap.size (some ⟨wr.heap.size, 0, none⟩) [⟨A, 256 * i, ca, madeV⟩] := by
        intro j p hj
        rcases j with _ | j
        · have hj : some _ = some p := hj
          cases hj
          refine ⟨⟨wr.heap.size, 0, none⟩, rfl, hl.lt, ?_, h1, h2, h3, (h4.below hbW).mono_ hbW.size⟩
          rw [Addr.add_mid, hl.cell]
          rfl
        · simp at hj
      have hB1 := hb.trans (hbW.mono hbs)
      have HBu := Lib.hid (build_any (some ⟨wr.heap.size, 0, none⟩) 1 [⟨A, 256 * i, ca, madeV⟩] W1 (HT.out.keep hB1) hsec)
      clear hrow hpart h1 h2 h3 h4 hl hsec hbW
      go_wp2_with fail
      refine HBu.out.mono ?_
      rintro e w2 ⟨_, _, h3, hb2⟩
      have hS : secsP [⟨A, 256 * i, ca, madeV⟩] = madeS i := rfl
      rw [hS, madeS_all] at h3
      obtain ⟨v, rfl, hv⟩ := h3 (by show 1 ≤ 60; decide) (by omega)
      have hB2 := hB1.trans (hb2.mono hB1.size)
      have hSB : ∀ k, imageOf (madeS i) k < 256 := fun k => hfit.byte k
      obtain ⟨g, cap, rfl⟩ := Joins.ownsRow_form hv (by omega)
      have hcm : cap ≤ maxLen := by
        rcases hv.2 with ⟨e, _⟩ | ⟨_, _, _, e, _, _, _, h, _⟩
        · cases e
        · cases e
          exact h
      obtain ⟨X, cx, hX, hXA, hXc, hXo⟩ := row_bys hv (fun k _ => hSB k)
      cases hX
      have hImg : IsImage (264 * (i + 1)) (imageOf (madeS i)) (madeS i) := ⟨hfit, by rw [madeS_all], fun _ _ => rfl⟩
      have HIm := Lib.hid hImg
      have HOp := Lib.hid (open_any (some ⟨g, 0, none⟩) (264 * (i + 1)) cap (imageOf (madeS i)) w2 (HT.out.keep hB2) (by omega) hXA hXc hXo)
      have HFit := Lib.hid hfit
      clear hv hb2 h3 HBu hXo hXA hcm hImg hS hfit hSB hXc
      go_wp2_with fail
      refine HOp.out.mono ?_
      rintro e w3 ⟨h1, _, hb3⟩
      obtain ⟨m, L, hIL, rfl, hAt⟩ := h1 ⟨madeS i, HIm.out⟩
      have hB3 := hB2.trans (hb3.mono hB2.size)
      have hall : allPages L = i + 1 := by
        have e := hIL.2.1
        omega
      have hbyte : ∀ k, k < 264 * (i + 1) → imageOf L k = imageOf (madeS i) k := fun k hk => (hIL.2.2 k hk).symm
      have hfit := hIL.1
      have HBy := Lib.hid hbyte
      obtain ⟨gm, hm⟩ : ∃ gm : Nat, m = .pointer (some ⟨gm, 0, none⟩) := by
        obtain ⟨g, _, _, _, _, _, h1, _⟩ := hAt
        exact ⟨g, h1⟩
      subst hm
      have HAt := Lib.hid hAt
      have HAll := Lib.hid hall
      have HFL := Lib.hid hfit
      clear h1 hIL hAt hall hbyte HOp hfit
      by_cases hx : 1 ≤ x ∧ x ≤ 4096
      · obtain ⟨k, rfl⟩ : ∃ k : Nat, x = (k : Int) := ⟨x.toNat, by omega⟩
        have HN := Lib.hid (cacheNew_any HAt.out k (by omega))
        rw [HAll.out] at HN
        go_wp2_with fail
        refine HN.out.mono ?_
        rintro e w4 ⟨rd, g4, gs4, D, rfl, hC, hrd, hg, hgs, hb4⟩
        have hCA : CacAt (fun j => rd j ∨ j = g4 ∨ j = gs4) w4 (.pointer (some ⟨g4, 0, none⟩)) (newC (i + 1) ((k : Int)).toNat) L := by
          rw [Int.toNat_natCast]
          exact ⟨rd, g4, gs4, _, D, rfl, hC, fun _ => Iff.rfl, HFL.out⟩
        have HC := Lib.hid hCA
        have hB4 := hB3.trans (hb4.mono hB3.size)
        have HR := Lib.hid hrd
        clear hC hrd hb4 hCA
        go_wp2_with fail
        go_ret
        have hs2 := hB2.size
        have hs3 := hB3.size
        refine ⟨fun _ => ⟨_, fun j => rd j ∨ j = g4 ∨ j = gs4, L, rfl, HC.out, fun j hj => ?_, HBy.out⟩, fun h => absurd (by omega) h, hB4⟩
        · rcases hj with hj | rfl | rfl
          · have := (HR.out j hj).1
            omega
          · omega
          · omega
      · have HN := Lib.hid (cacheNew_bad ⟨gm, 0, none⟩ x w3 hx)
        go_wp2_with fail
        refine HN.out.mono ?_
        rintro e w4 ⟨rfl, hb4⟩
        have hB4 := hB3.trans (hb4.mono hB3.size)
        clear hb4
        go_wp2_with fail
        go_ret
        exact ⟨fun h => absurd h hx, fun _ => rfl, hB4⟩
end Go.Proofs.YtjmajminfmcjcaaDoor
