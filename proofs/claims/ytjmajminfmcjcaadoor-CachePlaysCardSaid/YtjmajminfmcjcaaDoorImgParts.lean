/- image.parts: all pages of sections handed over by number, the head ahead. -/
import Derived.Test.YtjmajminfmcjcaaDoorImgChunk
import Derived.Test.YtjmajminfmcjcaaDoorImgSmall
namespace Go.Proofs.YtjmajminfmcjcaaDoor
open Go.RowKit Go.Shelf

attribute [local go_sem] Oper.semAt_some

/-- the i-th page's number, and what stands in it. -/
def PageOk (S : List Sec) (i : Nat) (x : Nat × Part) (w : World) : Prop :=
  x.1 = i ∧ x.2.n ≤ 256 ∧ (x.2.A = none → x.2.n = 0 ∧ x.2.c = 0) ∧ Bys w w.heap.size x.2.A x.2.n x.2.V ∧ ∃ s, (body S)[i]? = some s ∧ s.n = x.2.n ∧ ∀ k, k < x.2.n → x.2.V k = s.V k

set_option maxRecDepth 100000 in
theorem parts_any (P : Option Addr) (k c : Nat) (w : World) :
    Calls Tryd.prog 34 #[.slice P k c] w fun e w' => e = .returned (.func (.func 46) #[] #[.pointer (some ⟨w.heap.size, 0, none⟩)]) ∧ w' = w.alloc (.cells #[.slice P k c] 74) := by
  go_enter Tryd.func34, Tryd.ntmps34
  go_wp2_with fail
  go_ret
  exact ⟨rfl, rfl⟩

/-- the iterator's own memory, f pages being over: the sections, yield, the count. -/
structure PIn (l b0 E Bn lo : Nat) (P : Option Addr) (k c : Nat) (L : List Part) (f : Nat) (w : World) : Prop where
  sec : w.cell? ⟨b0, 0, none⟩ = some (.slice P k c)
  yld : w.cell? ⟨E, 0, none⟩ = some (.func (.yield l) #[] #[])
  cnt : w.cell? ⟨Bn, 0, none⟩ = some (.int .i64 (f : Int))
  free : w.frozen? ⟨Bn, 0, none⟩ = false
  secs : Secs w lo P L
  lt : lo < E ∧ b0 < E ∧ E < Bn ∧ Bn < w.heap.size
theorem PIn.keep {l b0 E Bn lo : Nat} {P : Option Addr} {k c : Nat} {L : List Part} {f T : Nat} {w w' : World} (h : PIn l b0 E Bn lo P k c L f w) (hb : Below T w w') (hT : Bn < T) : PIn l b0 E Bn lo P k c L f w' := by
  obtain ⟨h1, h2, h3, h4⟩ := h.lt
  exact ⟨(hb.cell (p := ⟨b0, 0, none⟩) (by show b0 < T; omega)).trans h.sec, (hb.cell (p := ⟨E, 0, none⟩) (by show E < T; omega)).trans h.yld, (hb.cell (p := ⟨Bn, 0, none⟩) hT).trans h.cnt, (hb.frozen (p := ⟨Bn, 0, none⟩) hT).trans h.free, h.secs.below (hb.mono (by omega)), h1, h2, h3, by have := hb.size; omega⟩
theorem PIn.off {l b0 E Bn lo : Nat} {P : Option Addr} {k c : Nat} {L : List Part} {f : Nat} {w w' : World} (h : PIn l b0 E Bn lo P k c L f w) (hb : Off (fun q => q < lo ∨ q = b0 ∨ E ≤ q) w w') : PIn l b0 E Bn lo P k c L f w' := by
  obtain ⟨h1, h2, h3, h4⟩ := h.lt
  exact ⟨hb.cell h.sec (.inr (.inl rfl)), hb.cell h.yld (.inr (.inr (Nat.le_refl _))), hb.cell h.cnt (.inr (.inr (Nat.le_of_lt h3))), hb.free h.cnt h.free (.inr (.inr (Nat.le_of_lt h3))), h.secs.below (hb.below (by omega) fun q hq => .inl hq), h1, h2, h3, by have := hb.size; omega⟩
theorem PIn.next {l b0 E Bn lo : Nat} {P : Option Addr} {k c : Nat} {L : List Part} {f : Nat} {w : World} (h : PIn l b0 E Bn lo P k c L f w) (g : Nat) : PIn l b0 E Bn lo P k c L g (w.setCell ⟨Bn, 0, none⟩ (.int .i64 (g : Int))) := by
  obtain ⟨h1, h2, h3, h4⟩ := h.lt
  have hb : Below Bn w (w.setCell ⟨Bn, 0, none⟩ (.int .i64 (g : Int))) := (Below.refl Bn w).setCell (p := ⟨Bn, 0, none⟩) (Nat.le_refl _) _
  exact ⟨(hb.cell (p := ⟨b0, 0, none⟩) (by show b0 < Bn; omega)).trans h.sec, (hb.cell (p := ⟨E, 0, none⟩) (by show E < Bn; omega)).trans h.yld, World.cell?_setCell_same' _ _ _ (by rw [h.cnt]; rfl), (World.frozen?_setCell _ _ _ _).trans h.free, h.secs.below (hb.mono (by omega)), h1, h2, h3, by simp [World.setCell]; omega⟩

set_option maxRecDepth 100000 in
set_option maxHeartbeats 3200000 in
theorem parts_gives (P : Option Addr) (c : Nat) (L : List Part) (lo b0 : Nat) (w : World) (hL : L.length ≤ 60) (hall : allPages (secsP L) ≤ 4096) (ho : Secs w lo P L) (hlo : lo ≤ b0) (h0 : b0 < w.heap.size)
    (c0 : w.cell? ⟨b0, 0, none⟩ = some (.slice P L.length c)) :
    Gives Tryd.prog 46 #[.pointer (some ⟨b0, 0, none⟩)] (fun x : Nat × Part => #[.int .i64 (x.1 : Int), .slice x.2.A x.2.n x.2.c]) (PageOk (secsP L)) (allPages (secsP L)) (Below (w.heap.size + 2))
      (Off fun k => k < lo ∨ k = b0 ∨ w.heap.size + 2 ≤ k) w := by
  intro l J Jx W hW hWz hJ hJx hY hJ0
  have C0 := (hW.cell (p := ⟨b0, 0, none⟩) h0).trans c0
  have HO := Lib.hid (ho.below (hW.mono (Nat.le_of_lt (Nat.lt_of_le_of_lt hlo h0))))
  have HY := Lib.hid hY
  have HJ := Lib.hid hJ
  have HJx := Lib.hid hJx
  obtain ⟨S, hS⟩ : ∃ S, secsP L = S := ⟨_, rfl⟩
  have HS := Lib.hid hS
  obtain ⟨E, hE⟩ : ∃ E, W.heap.size = E := ⟨_, rfl⟩
  have hlE : lo < E := by omega
  have hbE : b0 < E := by omega
  rw [hS] at HY hall ⊢
  rw [← hWz, hE] at HJ HJx HY
  obtain ⟨k, hk⟩ : ∃ k, L.length = k := ⟨_, rfl⟩
  have HK := Lib.hid hk
  have HSk := Lib.hid (show S.length = k by rw [← hS, secsP_length]; exact hk)
  rw [hk] at hL C0
  obtain ⟨N, hN⟩ : ∃ N, allPages S = N := ⟨_, rfl⟩
  have HN := Lib.hid hN
  rw [hN] at HY hall ⊢
  clear hY hJ hJx c0 ho hW hS hk hN hWz h0
  refine (callsIn_wide (n := 0)).1 ?_
  refine callsIn_of_wp_marks Tryd.func46 rfl trivial ?_ rfl
  simp only [Tryd.ntmps46, List.size_toArray, List.length_cons, List.length_nil, Nat.reduceAdd, Nat.reduceSub, Array.replicate_succ, Array.replicate_zero, List.push_toArray, List.append_toArray, List.nil_append, List.cons_append]
  gi_wp2
  rename_i Ka hKa Kb hKb
  obtain ⟨W1, hW1⟩ : ∃ W1, W.alloc (.cells #[.func (.yield l) #[] #[]] 93) = W1 := ⟨_, rfl⟩
  have hb1 : Below E W W1 := by rw [← hW1, ← hE]; exact (Below.refl _ _).alloc (Nat.le_refl _) _
  have hz1 : W1.heap.size = E + 1 := by rw [← hW1, ← hE]; simp
  have C01 : W1.cell? ⟨b0, 0, none⟩ = some (.slice P k c) := (hb1.cell (p := ⟨b0, 0, none⟩) hbE).trans C0
  have CY1 : W1.cell? ⟨E, 0, none⟩ = some (.func (.yield l) #[] #[]) := by rw [← hW1, ← hE]; exact (lies_new W 93 [.func (.yield l) #[] #[]]).cell 0
  have HJ1 := Lib.hid (HJ.out 0 _ _ hJ0 hb1)
  have HO1 := Lib.hid (HO.out.below (hb1.mono (Nat.le_of_lt hlE)))
  have hmore : ∀ (v9 : Value) (w2 : World), J 1 w2 → Off (fun k => k < lo ∨ k = b0 ∨ E ≤ k) W1 w2 → Kb { tmps := #[.func (.yield l) #[] #[], .pointer (some ⟨b0, 0, none⟩), .pointer (some ⟨E, 0, none⟩), undef, undef, undef, undef, .func (.yield l) #[] #[], .slice P k c, v9, .bool true, .bool false, undef, undef, undef, undef, undef, undef, undef, undef, undef, undef, undef, undef, undef, undef, undef, undef, undef], defers := [] } w2 := by
    intro v9 w2 hJ1 hO2
    refine hKb _ _ ?_
    have hz2 := hO2.size
    have C02 := hO2.cell C01 (.inr (.inl rfl))
    have CY2 := hO2.cell CY1 (.inr (.inr (Nat.le_refl _)))
    have HO2 := Lib.hid (HO1.out.below (hO2.below (by omega) (fun k hk => .inl hk)))
    have C03 : (w2.alloc (.cells #[.int .i64 1] 3)).cell? ⟨b0, 0, none⟩ = some (.slice P k c) := (((Below.refl w2.heap.size w2).alloc (Nat.le_refl _) (.cells #[.int .i64 1] 3)).cell (p := ⟨b0, 0, none⟩) (by show b0 < w2.heap.size; omega)).trans C02
    gi_wp2
    obtain ⟨Bn, hBn⟩ : ∃ Bn, w2.heap.size = Bn := ⟨_, rfl⟩
    obtain ⟨w4, hw4⟩ : ∃ w4, w2.alloc (.cells #[.int .i64 1] 3) = w4 := ⟨_, rfl⟩
    have hz4 : w4.heap.size = Bn + 1 := by rw [← hw4, ← hBn]; simp
    have hb4 : Below Bn w2 w4 := by rw [← hw4, ← hBn]; exact (Below.refl _ _).alloc (Nat.le_refl _) _
    have hl4 : Lies w4 Bn 3 [.int .i64 1] := by rw [← hw4, ← hBn]; exact lies_new w2 3 [.int .i64 1]
    have hP4 : PIn l b0 E Bn lo P k c L 1 w4 := ⟨(hb4.cell (p := ⟨b0, 0, none⟩) (by show b0 < Bn; omega)).trans C02, (hb4.cell (p := ⟨E, 0, none⟩) (by show E < Bn; omega)).trans CY2, hl4.cell 0, hl4.free 0, HO2.out.below (hb4.mono (by omega)), by omega, by omega, by omega, by omega⟩
    have hJ4 : J 1 w4 := HJ.out _ _ _ hJ1 (hb4.mono (by omega))
    rw [hw4, hBn]
    clear hJ1 hO2 C02 CY2 HO2 C03 hl4 hb4 hw4
    refine wpIn_loop (fun a' w' => ∃ (ds : List Deferred) (i f : Nat) (u5 u15 u16 u17 u18 u19 u28 : Value), (i ≤ k ∧ Hid (f = startAt S i) ∧ Hid (J f w') ∧ Hid (PIn l b0 E Bn lo P k c L f w') ∧ Hid (Marks (Bn + 1) w'.heap.size ds w')) ∧ a' = { tmps := #[.func (.yield l) #[] #[], .pointer (some ⟨b0, 0, none⟩), .pointer (some ⟨E, 0, none⟩), .pointer (some ⟨Bn, 0, none⟩), undef, u5, undef, .func (.yield l) #[] #[], .slice P k c, v9, .bool true, .bool false, .slice P k c, .int .i64 (k : Int), .int .i64 (i : Int), u15, u16, u17, u18, u19, undef, undef, undef, undef, undef, undef, undef, undef, u28], defers := ds }) (fun a' _ => k - (intOf (a'.tmps.getD 14 undef)).toNat) ?_ ?_
    · exact ⟨[], 0, 1, _, _, _, _, _, _, _, ⟨Nat.zero_le _, Lib.hid rfl, Lib.hid hJ4, Lib.hid hP4, Lib.hid trivial⟩, rfl⟩
    · rintro _ wr ⟨ds, i, f, u5, u15, u16, u17, u18, u19, u28, ⟨hi, hf, hJr, hPr, hMr⟩, rfl⟩
      clear hP4 hJ4
      by_cases hlt : i < k
      · have hlti : (i : Int) < (k : Int) := by omega
        obtain ⟨p, hp⟩ : ∃ p, L[i]? = some p := ⟨_, List.getElem?_eq_getElem (by rw [HK.out]; exact hlt)⟩
        obtain ⟨ad, rfl, hbl, hc, hnc, hcm, hpA, hpB⟩ := hPr.out.secs i p hp
        have HPp := Lib.hid hp
        clear hp
        obtain ⟨A, n, cc, V⟩ := p
        have hpm : cc ≤ 9223372036854775807 := by unfold maxLen at hcm; omega
        gi_wp2_with (refine ⟨trivial, rfl, ?_⟩; gi_at_call 48; refine (callsIn_wide.2 (chunk_any A n cc 256 wr (by decide))).mono ?_; rintro e w' ⟨rfl, rfl⟩)
        have hst := startAt_succ S i ⟨n, V⟩ (by rw [← HS.out]; exact secsP_at HPp.out)
        have hle := startAt_le S (i + 1) (by rw [HSk.out]; omega)
        have hF1 : f + pgs n = startAt S (i + 1) := by rw [hst, hf.out]
        have hFN : f + pgs n ≤ N := by rw [hF1, ← HN.out]; exact hle
        have hn4 : n ≤ 4000000 := by have := pgs_room n; omega
        have HF1 := Lib.hid hF1
        have HBd := Lib.hid (fun j (hj : j < pgs n) => by have h := body_at S i ⟨n, V⟩ j (by rw [← HS.out]; exact secsP_at HPp.out) hj; rw [← hf.out] at h; exact h)
        obtain ⟨T, hT⟩ : ∃ T, wr.heap.size = T := ⟨_, rfl⟩
        have hBT : Bn < T := by rw [← hT]; exact hPr.out.lt.2.2.2
        have hET : E < T := by have := hPr.out.lt.2.2.1; omega
        obtain ⟨w5, hw5⟩ : ∃ w5, (wr.alloc (.cells #[.slice A n cc] 31)).alloc (.cells #[.int .i64 256] 3) = w5 := ⟨_, rfl⟩
        have hz5 : w5.heap.size = T + 2 := by rw [← hw5, ← hT]; simp
        have hb5 : Below T wr w5 := by rw [← hw5, ← hT]; exact ((Below.refl _ _).alloc (Nat.le_refl _) _).alloc (by simp) _
        have x1 : w5.cell? ⟨T, 0, none⟩ = some (.slice A n cc) := by rw [← hw5, ← hT]; exact ((lies_new wr 31 [.slice A n cc]).alloc _).cell 0
        have x2 : w5.cell? ⟨T + 1, 0, none⟩ = some (.int .i64 ((256 : Nat) : Int)) := by
          rw [← hw5, ← hT]
          have h := (lies_new (wr.alloc (.cells #[.slice A n cc] 31)) 3 [.int .i64 256]).cell 0
          rw [size_alloc] at h
          exact h
        obtain ⟨ad2, hA2, hG⟩ : ∃ ad2 : Addr, (0 < n → A = some ad2) ∧ Gives Tryd.prog 54 #[.pointer (some ⟨T, 0, none⟩), .pointer (some ⟨T + 1, 0, none⟩)] (fun i : Nat => #[partAt ad2 n 256 i]) (fun i x _ => x = i) (partsIn n 256) Quiet (fun A A' => A'.heap[T]? = A.heap[T]? ∧ A'.heap[T + 1]? = A.heap[T + 1]?) w5 := by
          rcases A with _ | ad2
          · obtain ⟨rfl, _⟩ : n = 0 ∧ cc = 0 := hpA rfl
            exact ⟨ad, fun h => absurd h (Nat.lt_irrefl _), chunk_gives_none ad none cc 256 T (T + 1) w5 (by decide) (by omega) x1⟩
          · exact ⟨ad2, fun _ => rfl, chunk_gives ad2 n cc 256 T (T + 1) w5 (by decide) hn4 hnc (by omega) (by omega) x1 x2⟩
        have hpn : partsIn n 256 = pgs n := rfl
        rw [hpn] at hG
        rw [hT, hw5]
        have HPA := Lib.hid hA2
        have HBelow : ∀ A A' : World, w5.heap.size ≤ A.heap.size → A.grownBy A' (some (w5.heap.size + 1)) ∨ Quiet A A' → Below (T + 2) A A' := fun A A' hs h => by
          rcases h with h | h
          · exact below_row h (by omega) (fun q e => by cases e; omega)
          · exact h.below _
        have HMk : ∀ A A' : World, Below (T + 2) A A' → Marks (Bn + 1) T ds A → Marks (Bn + 1) T ds A' := fun A A' hb h => h.keep fun D _ hD hk => (hb.block D (by omega)).trans hk
        have hP5 : PIn l b0 E Bn lo (some ad) k c L f w5 := hPr.out.keep hb5 hBT
        have hJ5 : J f w5 := HJ.out _ _ _ hJr.out (hb5.mono (by omega))
        have hM5 : Marks (Bn + 1) T ds w5 := by
          have h := hMr.out
          rw [hT] at h
          exact h.keep fun D _ hD hk => (hb5.block D hD).trans hk
        clear hst hle hF1 hpA hA2 hw5 hpB hc hPr hJr hMr x1 x2
        refine range_law (gf := 54) (lb := #[.pointer (some ⟨T, 0, none⟩), .pointer (some ⟨T + 1, 0, none⟩)]) rfl (enters_of Tryd.func54 (by kernel_rfl) rfl) hG (fun _ => rfl)
          (Off fun q => T ≤ q) (fun j W' => Hid (J (f + j) W') ∧ Hid (PIn l b0 E Bn lo (some ad) k c L (f + j) W') ∧ Hid (Marks (Bn + 1) T ds W') ∧ w5.heap.size ≤ W'.heap.size)
          (fun c W' => c = .ret ∧ Hid (Jx W') ∧ Hid (Marks (Bn + 1) T ds W') ∧ w5.heap.size ≤ W'.heap.size)
          (fun A A' h q _ _ _ => by rw [h.heap]) (fun A A' h q h1 _ h2 => h.block q h2 (by omega)) ?kp ?inv ?ix (fun _ _ _ _ _ h _ _ => h) ⟨Lib.hid hJ5, Lib.hid hP5, Lib.hid hM5, Nat.le_refl _⟩
          (fun j => { tmps := #[.func (.yield l) #[] #[], .pointer (some ⟨b0, 0, none⟩), .pointer (some ⟨E, 0, none⟩), .pointer (some ⟨Bn, 0, none⟩), undef, .slice A n cc, partAt ad2 n 256 j, .func (.yield l) #[] #[], .slice (some ad) k c, v9, .bool true, .bool false, .slice (some ad) k c, .int .i64 (k : Int), .int .i64 (i : Int), .bool true, .pointer (some (ad.add i)), .slice A n cc, .slice A n cc, .func (.func 54) #[] #[.pointer (some ⟨T, 0, none⟩), .pointer (some ⟨T + 1, 0, none⟩)], partAt ad2 n 256 j, undef, undef, undef, undef, undef, undef, undef, u28], defers := [] }) ?assign ?body ?done ?stop
        case kp =>
          intro A B C D hs h1 h2 h3
          have hs1 := h1.size
          have hs2 := h2.size
          exact ⟨(h3.block T (by omega) (fun e => by injection e with e; omega)).trans ((h2.block T (by omega) (Nat.le_refl _)).trans (h1.block T (by omega) (fun e => by injection e with e; omega))), (h3.block (T + 1) (by omega) (fun e => by injection e with e; omega)).trans ((h2.block (T + 1) (by omega) (by omega)).trans (h1.block (T + 1) (by omega) (fun e => by injection e with e; omega)))⟩
        case inv =>
          rintro j X X' ⟨h1, h2, h3, h4⟩ h
          have hb := HBelow X X' h4 h
          exact ⟨Lib.hid (HJ.out _ _ _ h1.out (hb.mono (by omega))), Lib.hid (h2.out.keep hb (by omega)), Lib.hid (HMk _ _ hb h3.out), Nat.le_trans h4 hb.size⟩
        case ix =>
          rintro c' X X' ⟨h1, h2, h3, h4⟩ h
          have hb := HBelow X X' h4 h
          exact ⟨h1, Lib.hid (HJx.out _ _ h2.out (hb.mono (by omega))), Lib.hid (HMk _ _ hb h3.out), Nat.le_trans h4 hb.size⟩
        case assign =>
          intro l' x W' K hK
          gi_wp2
          exact hK
        case body =>
          rintro l' j x W' hsz hj rfl ⟨hJj, hPj, hMj, hs⟩
          obtain ⟨t, ht⟩ : ∃ t, f + x = t := ⟨_, rfl⟩
          have ht1 : f + (x + 1) = t + 1 := by omega
          obtain ⟨q, hq⟩ : ∃ q, partLen n 256 x = q := ⟨_, rfl⟩
          obtain ⟨ad3, had3⟩ : ∃ a3, ad2.add (256 * x) = a3 := ⟨_, rfl⟩
          have hpt : partAt ad2 n 256 x = .slice (some ad3) q q := by unfold partAt; rw [hq, had3]
          have hbd := HBd.out x hj
          rw [ht] at hJj hPj hbd
          rw [ht1]
          rw [hpt]
          have hnx : 256 * x < n := by unfold pgs at hj; omega
          have hq2 : min 256 (n - 256 * x) = q := hq
          have hAd : A = some ad2 := HPA.out (by omega)
          obtain ⟨_, _, _, _, _, _, _, hBy⟩ := hPj.out.secs i _ HPp.out
          have hBy : Bys W' lo A n V := hBy
          have hloW : lo ≤ W'.heap.size := by omega
          have hBy2 : Bys W' W'.heap.size (some ad3) q (fun z => V (256 * x + z)) := by
            rw [← had3]
            rw [hAd] at hBy
            exact Bys.cut_ (hBy.mono_ hloW) (by omega)
          have hy0 := HY.out t (t, ⟨some ad3, q, q, fun z => V (256 * x + z)⟩) W' (by omega) ⟨rfl, by show q ≤ 256; omega, fun e => (by cases e), hBy2, _, hbd, hq2, fun z _ => rfl⟩ hJj.out
          dsimp only at hy0
          obtain ⟨fn, tm, ac, bd, hy, hR⟩ := hy0
          have k1 := hPj.out.yld
          have k2 := hPj.out.cnt
          have ht4 : t + 1 ≤ 4097 := by omega
          have e1 : IntKind.i64.wrap ((t : Int) + 1) = ((t + 1 : Nat) : Int) := by rw [IntWalk.i64_in _ (by omega)]; omega
          clear hpt hbd hq2 hBy hBy2 hnx hq had3 hAd
          gi_wp2
          refine ⟨rfl, hR.mono ?_⟩
          rintro e W3 (⟨rfl, hJ3, hk3⟩ | ⟨rfl, hJx3, hk3⟩)
          · have hP3 := hPj.out.off hk3
            have k3 := hP3.cnt
            have k4 := hP3.free
            have HP3 := Lib.hid (hP3.next (t + 1))
            have HJ3 := Lib.hid (HJ.out (t + 1) _ _ hJ3 ((Below.refl E W3).setCell (p := ⟨Bn, 0, none⟩) (by show E ≤ Bn; omega) (.int .i64 ((t + 1 : Nat) : Int))))
            have HR3 : Off (fun q => T ≤ q) W' (W3.setCell ⟨Bn, 0, none⟩ (.int .i64 ((t + 1 : Nat) : Int))) := (hk3.less fun q h => .inr (.inr (by omega))).trans (Off.setCell (by show ¬ T ≤ Bn; omega) _)
            have HM3 := Lib.hid (show Marks (Bn + 1) T ds (W3.setCell ⟨Bn, 0, none⟩ (.int .i64 ((t + 1 : Nat) : Int))) from hMj.out.keep fun D hD1 hD2 hk => (Below.heap_setCell _ _ _ _ (by show D ≠ Bn; omega)).trans ((hk3.block D (by omega) (.inr (.inr (by omega)))).trans hk))
            clear hP3 hJ3 hy hR k1 k2
            gi_wp2
            rw [show (t : Int) + 1 = ((t + 1 : Nat) : Int) by omega]
            exact ⟨HR3, HJ3, HP3, HM3, Nat.le_trans hs HR3.size⟩
          · have HR3 : Off (fun q => T ≤ q) W' W3 := hk3.less fun q h => .inr (.inr (by omega))
            have HM3 := Lib.hid (show Marks (Bn + 1) T ds W3 from hMj.out.keep fun D hD1 hD2 hk => (hk3.block D (by omega) (.inr (.inr (by omega)))).trans hk)
            gi_wp2
            exact ⟨HR3, rfl, Lib.hid hJx3, HM3, Nat.le_trans hs HR3.size⟩
        case done =>
          rintro D W' hD ⟨hJj, hPj, hMj, hs⟩ hK
          have hDl := (Array.getElem?_eq_some_iff.1 hK).1
          have i1 : IntKind.i64.wrap ((i : Int) + 1) = ((i + 1 : Nat) : Int) := by rw [IntWalk.i64_in _ (by omega)]; omega
          gi_wp2
          refine ⟨⟨{ target := .collected D, args := #[] } :: ds, i + 1, f + pgs n, _, _, _, _, _, _, _, ⟨by omega, Lib.hid HF1.out, hJj, hPj, Lib.hid ⟨D, rfl, by omega, hDl, hK, hMj.out.higher (by omega)⟩⟩, rfl⟩, ?_⟩
          simp [intOf]
          omega
        case stop =>
          rintro D c' W' hD ⟨rfl, hJx', hM', hs⟩ hK
          have hDl := (Array.getElem?_eq_some_iff.1 hK).1
          gi_wp2
          have hMM : Marks (Bn + 1) W'.heap.size ({ target := .collected D, args := #[] } :: ds) W' := ⟨D, rfl, by omega, hDl, hK, hM'.out.higher (by omega)⟩
          exact hMM.out (by omega) fun w' hw' => ⟨_, results_none rfl _ _ _, ⟨_, rfl⟩, .inr (HJx.out _ _ hJx'.out (hw'.mono (by omega)))⟩
      · obtain rfl : k = i := by omega
        have hfN : f = N := by rw [hf.out, ← HN.out, ← HSk.out]; rfl
        subst hfN
        have hBs := hPr.out.lt
        gi_wp2
        exact hMr.out.out (by omega) fun w' hw' => ⟨_, results_none rfl _ _ _, ⟨_, rfl⟩, .inl (HJ.out _ _ _ hJr.out (hw'.mono (by omega)))⟩
  have hless : ∀ (v9 : Value) (w2 : World), Jx w2 → Kb { tmps := #[.func (.yield l) #[] #[], .pointer (some ⟨b0, 0, none⟩), .pointer (some ⟨E, 0, none⟩), undef, undef, undef, undef, .func (.yield l) #[] #[], .slice P k c, v9, .bool false, .bool true, undef, undef, undef, undef, undef, undef, undef, undef, undef, undef, undef, undef, undef, undef, undef, undef, undef], defers := [] } w2 := by
    intro v9 w2 hJx2
    refine hKb _ _ ?_
    gi_wp2
    exact ⟨_, results_none rfl _ _ _, ⟨_, rfl⟩, .inr hJx2⟩
  have hm : Tryd.prog.follows .mixedOrders = true := by kernel_rfl
  have hN0 : 0 < N := by rw [← HN.out]; unfold allPages startAt; omega
  have HHd : Hid (Calls Tryd.prog 47 #[.slice P k c] W1.drew fun e w1 => ∃ (A : Option Addr) (cu : Nat), e = .returned (.slice A (6 + 4 * k) cu) ∧ w1.cell? ⟨b0, 0, none⟩ = some (.slice P k c) ∧ w1.cell? ⟨E, 0, none⟩ = some (.func (.yield l) #[] #[]) ∧
      YieldAt Fence.wide 0 Tryd.prog l #[.int .i64 0, .slice A (6 + 4 * k) cu] w1 fun e W' => ∃ b : Bool, e = .returned (.bool b) ∧ (b = true → J 1 W' ∧ Off (fun k => k < lo ∨ k = b0 ∨ E ≤ k) W1 W') ∧ (b = false → Jx W')) := by
    have hh := headOf_any P c L W1.drew (by rw [HK.out]; exact hL) (HO1.out.mono_ (by show lo ≤ W1.heap.size; omega))
    rw [HK.out, HS.out] at hh
    refine Lib.hid (hh.mono ?_)
    rintro e w1 ⟨u, rfl, hu, hbu⟩
    have hzW : W1.drew.heap.size = E + 1 := hz1
    obtain ⟨A, cu, rfl, hA, hAc, hAo⟩ := hu.bys (fun j _ => headV_lt S (by rw [HSk.out]; exact hL) j)
    have hou : Off (fun k => k < lo ∨ k = b0 ∨ E ≤ k) W1 w1 := Off.call (A := W1) ⟨hbu.os, hbu.tape, hbu.output, hbu.size, hbu.block⟩
    refine ⟨A, cu, rfl, (hbu.cell (p := ⟨b0, 0, none⟩) (by show b0 < W1.drew.heap.size; omega)).trans C01, (hbu.cell (p := ⟨E, 0, none⟩) (by show E < W1.drew.heap.size; omega)).trans CY1, ?_⟩
    refine (HY.out 0 (0, ⟨A, 6 + 4 * k, cu, headV S⟩) w1 hN0 ⟨rfl, by show 6 + 4 * k ≤ 256; omega, hA, hAo, headOf S, body_head S, by show 6 + 4 * S.length = 6 + 4 * k; rw [HSk.out], fun _ _ => rfl⟩ (HJ.out 0 W1 w1 HJ1.out ⟨hbu.os, hbu.tape, hbu.output, hbu.size, fun q hq => hbu.block q (by omega)⟩)).mono ?_
    rintro e W3 (⟨rfl, hJ3, hk3⟩ | ⟨rfl, hJx3, _⟩)
    · exact ⟨true, rfl, fun _ => ⟨hJ3, hou.trans hk3⟩, fun h => (by cases h)⟩
    · exact ⟨false, rfl, fun h => (by cases h), fun _ => hJx3⟩
  rw [hW1]
  clear hW1 C0 hb1 hJ0 HO
  refine wpIn_mono (Q := Exit.then Kb (fun _ _ _ => False)) ?_ (fun e a w h => by cases e <;> first | exact h | exact h.elim)
  gi_region_with_o (first
    | (refine ⟨trivial, rfl, ?_⟩; gi_at_call 47; refine (callsIn_wide.2 HHd.out).mono ?_; rintro e w1 ⟨A, cu, rfl, C02, CY2, fn, tm, ac, bd, hy, hR⟩)
    | (refine ⟨rfl, hR.mono ?_⟩; rintro e W3 ⟨b, rfl, hyes, hno⟩))
  all_goals
    cases b with
    | false => exact hless _ _ (hno rfl)
    | true => exact hmore _ _ (hyes rfl).1 (hyes rfl).2
end Go.Proofs.YtjmajminfmcjcaaDoor
