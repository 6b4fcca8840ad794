/- Contracts of Rank and Has of a sparse list. -/
import Derived.Test.YtmcoehimjfgakaaSpGet
import Derived.Deep.LoopGhost
import Derived.Deep.RegionWith
import Derived.Deep.CutBlock
namespace Go.Proofs.Ytmcoehimjfgakaa
open Go.RowKit

/-- what sort.Search leaves: where p begins to hold. -/
def SearchPost (p : Nat → Bool) (n : Nat) (w : World) (e : Ending) (w' : World) : Prop :=
  ∃ r : Nat, e = .returned (.int .i64 (r : Int)) ∧ r ≤ n ∧ (∀ t, t < r → p t = false) ∧ (∀ t, r ≤ t → t < n → p t = true) ∧ ∃ q, w' = w.drewN q

set_option maxRecDepth 100000 in
set_option maxHeartbeats 800000 in
theorem ssearch_any (p : Nat → Bool) (n : Nat) (l1 l2 l3 : Value) (w : World) (hn : n ≤ 4194304) (hp : ∀ i j, i ≤ j → j < n → p i = true → p j = true)
    (hc : ∀ q i, i < n → Calls Try.prog 34 #[.int .i64 ((i : Nat) : Int), l1, l2, l3] (w.drewN q) fun e w' => e = .returned (.bool (p i)) ∧ ∃ q', w' = (w.drewN q).drewN q') :
    Calls Try.prog 33 #[.int .i64 (n : Int), .func (.func 34) #[] #[l1, l2, l3]] w (SearchPost p n w) := by
  have HF := Lib.hid hc
  have HP := Lib.hid hp
  clear hc hp
  go_enter Try.func33, Try.ntmps33
  go_wp2
  go_loopg [5, 6] n (fun kx s5 s6 wr => ∃ (lo hi q : Nat), s5 = .int .i64 lo ∧ s6 = .int .i64 hi ∧ lo ≤ hi ∧ hi ≤ n ∧ hi - lo ≤ kx ∧ wr = w.drewN q ∧
    Hid ((∀ t, t < lo → p t = false) ∧ (∀ t, hi ≤ t → t < n → p t = true)))
  case atStart => exact ⟨0, n, 0, rfl, rfl, Nat.zero_le _, Nat.le_refl _, by omega, rfl, Lib.hid ⟨fun t ht => absurd ht (Nat.not_lt_zero _), fun t h1 h2 => by omega⟩⟩
  case round =>
    obtain ⟨lo, hi, q, rfl, rfl, hlh, hin, hg, rfl, I⟩ := hrel
    by_cases hlt : lo < hi
    · obtain ⟨md, hmd⟩ : ∃ md : Nat, md = (lo + hi) / 2 := ⟨_, rfl⟩
      have hmd1 : lo ≤ md := by omega
      have hmd2 : md < hi := by omega
      have em : ((lo : Int) + (hi : Int)) / 2 = (md : Int) := by omega
      have hc := HF.out q md (by omega)
      clear hmd
      obtain ⟨pb, hpb⟩ : ∃ pb, p md = pb := ⟨_, rfl⟩
      rw [hpb] at hc
      have HC := Lib.hid hc
      have HPb := Lib.hid hpb
      clear hc hpb
      cases pb with
      | true =>
        go_wp2_with (go_at_call 34; refine HC.out.mono ?_; rintro e w' ⟨rfl, nq, rfl⟩)
        go_roundg (md - lo)
        case measure => omega
        case rel =>
          exact ⟨lo, md, q + nq, rfl, rfl, by omega, by omega, Nat.le_refl _, rfl, Lib.hid ⟨I.out.1, fun t ht htn => HP.out md t ht htn HPb.out⟩⟩
      | false =>
        go_wp2_with (go_at_call 34; refine HC.out.mono ?_; rintro e w' ⟨rfl, nq, rfl⟩)
        go_roundg (hi - (md + 1))
        case measure => omega
        case rel =>
          refine ⟨md + 1, hi, q + nq, by go_num, rfl, by omega, hin, Nat.le_refl _, rfl, Lib.hid ⟨fun t ht => ?_, I.out.2⟩⟩
          cases e : p t with
          | false => rfl
          | true =>
            have := HP.out t md (by omega) (by omega) e
            rw [HPb.out] at this
            cases this
    · obtain rfl : lo = hi := by omega
      go_wp2
      go_ret
      exact ⟨lo, rfl, hin, I.out.1, I.out.2, q, rfl⟩

set_option maxRecDepth 100000 in
set_option maxHeartbeats 800000 in
theorem rclosure_any (g gl bs bf bl fr i lo y : Nat) (W : World) (hs : W.cell? ⟨bs, 0, none⟩ = some (.pointer (some ⟨g, 0, none⟩))) (hf : W.cell? ⟨bf, 0, none⟩ = some (.int .i64 (fr : Int))) (hl : W.cell? ⟨bl, 0, none⟩ = some (.int .u64 (lo : Int)))
    (hg : W.cell? ⟨g, 4, none⟩ = some (.pointer (some ⟨gl, 0, none⟩))) (hi : fr + i < 4194304)
    (hc : ∀ q, Calls Try.prog 35 #[.pointer (some ⟨gl, 0, none⟩), .int .i64 ((fr + i : Nat) : Int)] (W.drewN q) fun e w' => e = .returned (.int .u64 (y : Int)) ∧ W.drewN q = w') :
    Calls Try.prog 34 #[.int .i64 (i : Int), .pointer (some ⟨bs, 0, none⟩), .pointer (some ⟨bf, 0, none⟩), .pointer (some ⟨bl, 0, none⟩)] W fun e w' => e = .returned (.bool (decide (lo ≤ y))) ∧ ∃ q, w' = W.drewN q := by
  have HG : ∀ q, Hid (Calls Try.prog 35 #[.pointer (some ⟨gl, 0, none⟩), .int .i64 ((fr : Int) + (i : Int))] (W.drewN q) fun e w' => e = .returned (.int .u64 (y : Int)) ∧ W.drewN q = w') := fun q => Lib.hid (hc q)
  have e1 : IntKind.i64.wrap ((fr : Int) + (i : Int)) = (fr : Int) + (i : Int) := IntWalk.i64_in _ (by omega)
  clear hc
  go_enter Try.func34, Try.ntmps34
  go_wp2_with fail
  go_quiet ((go_at_call 35; with_reducible exact quiet_keep (HG _).out))
  go_wp2_with fail
  go_ret
  exact ⟨rfl, _, rfl⟩

section
variable {w w' : World} {B g h1 h2 gl gls n k m : Nat} {hs ls : List Nat} {l : Nat → Nat}

theorem ks_of {W0 w1 : World} {b : Nat} {p : Value} {t : TypeId} (hb : b < W0.heap.size) (hl : Lies W0 b t [p]) (h : Below W0.heap.size W0 w1) : w1.cell? ⟨b, 0, none⟩ = some p ∧ Below W0.heap.size W0 w1 := ⟨(hl.below h hb).cell 0, h⟩

theorem rsearch_any {W : World} (h : Spl W B g h1 h2 gl gls n k m hs ls l) (bs bf bl u v y : Nat) {t1 t2 t3 : TypeId} (hs : Lies W bs t1 [.pointer (some ⟨g, 0, none⟩)]) (hf : Lies W bf t2 [.int .i64 (u : Int)]) (hl : Lies W bl t3 [.int .u64 (y : Int)]) (huv : u ≤ v) (hv : v ≤ m)
    (hmono : ∀ i j, i ≤ j → j < v - u → y ≤ l (u + i) % 2 ^ k → y ≤ l (u + j) % 2 ^ k) :
    Calls Try.prog 33 #[.int .i64 ((v - u : Nat) : Int), .func (.func 34) #[] #[.pointer (some ⟨bs, 0, none⟩), .pointer (some ⟨bf, 0, none⟩), .pointer (some ⟨bl, 0, none⟩)]] W (SearchPost (fun t => decide (y ≤ l (u + t) % 2 ^ k)) (v - u) W) := by
  have hm := h.few_places
  refine ssearch_any _ _ _ _ _ _ (by omega) (fun i j hij hj hi => ?_) (fun q i hi => ?_)
  · simp only [decide_eq_true_eq] at hi ⊢
    exact hmono i j hij hj hi
  · exact rclosure_any g gl bs bf bl u i y (l (u + i) % 2 ^ k) (W.drewN q) (hs.cell 0) (hf.cell 0) (hl.cell 0) (h.raw.head.cell 4) (by omega) (fun q' => ((h.drewN q).drewN q').raw.low.get (u + i) (by omega))

set_option maxRecDepth 100000 in
set_option maxHeartbeats 3200000 in
theorem srank_in (h : Spl w B g h1 h2 gl gls n k m hs ls l) (x : Nat) (hx1 : 1 ≤ x) (hx2 : x < n) :
    Calls Try.prog 13 #[.pointer (some ⟨g, 0, none⟩), .int .i64 (x : Int)] w fun e w' => e = .returned (.int .i64 ((Pl.cnt (fun i => decide (l i < x)) m : Nat) : Int)) ∧ Below w.heap.size w w' := by
  obtain ⟨W0, hW0⟩ : ∃ W0, W0 = w.alloc (.cells #[.pointer (some ⟨g, 0, none⟩)] 24) := ⟨_, rfl⟩
  have hB0 : Below w.heap.size w W0 := by rw [hW0]; exact below_box w _
  have hl0 : Lies W0 w.heap.size 24 [.pointer (some ⟨g, 0, none⟩)] := by rw [hW0]; exact lies_new w _ _
  have h0 := h.keep hB0
  have hk := h.raw.width
  have hn := h.raw.few
  have hm := h.few_places
  have hpos := h.pos
  have hmz : ((m : Int) == 0) = false := by rw [beq_eq_false_iff_ne]; omega
  obtain ⟨q, hq⟩ : ∃ q, x / 2 ^ k = q := ⟨_, rfl⟩
  have hqx : q ≤ x := by rw [← hq]; exact Nat.div_le_self _ _
  have hqz : q ≤ (n - 1) / 2 ^ k := by rw [← hq]; exact Nat.div_le_div_right (by omega)
  have eq1 : (x : Int) / 2 ^ k = (q : Int) := by rw [shr_u, hq]
  have HU1 : ∀ W, Below W0.heap.size W0 W → Hid (Calls Try.prog 32 #[.pointer (some ⟨g, 0, none⟩), .int .i64 ((q : Int) - 1)] W fun e w' => e = .returned (.int .i64 ((Pl.under l (2 ^ k) m q : Nat) : Int)) ∧ Below W.heap.size W w') := fun W hW => Lib.hid (upTo_any (h0.keep hW) q (by omega))
  have HU2 : ∀ W, Below W0.heap.size W0 W → Hid (Calls Try.prog 32 #[.pointer (some ⟨g, 0, none⟩), .int .i64 (q : Int)] W fun e w' => e = .returned (.int .i64 ((Pl.under l (2 ^ k) m (q + 1) : Nat) : Int)) ∧ Below W.heap.size W w') := fun W hW => by
    have c := upTo_any (h0.keep hW) (q + 1) (by omega)
    rw [show (((q + 1 : Nat) : Int) - 1) = (q : Int) by omega] at c
    exact Lib.hid c
  have HLen := Lib.hid (slen_any h0)
  have HLB : ∀ W, Hid (Calls Try.prog 29 #[.int .i64 (x : Int), .int .i64 (k : Int)] W fun e w' => e = .returned (.int .u64 (x % 2 ^ k : Nat)) ∧ W = w') := fun W => Lib.hid (lowBits_any x k (by omega) hk W)
  have hmono := Pl.under_mono l (2 ^ k) m (show q ≤ q + 1 by omega)
  have hule := Pl.under_le l (2 ^ k) m (q + 1)
  obtain ⟨u, hu⟩ : ∃ u, Pl.under l (2 ^ k) m q = u := ⟨_, rfl⟩
  obtain ⟨v, hv⟩ : ∃ v, Pl.under l (2 ^ k) m (q + 1) = v := ⟨_, rfl⟩
  obtain ⟨y, hy⟩ : ∃ y, x % 2 ^ k = y := ⟨_, rfl⟩
  rw [hu] at HU1 hmono
  rw [hv] at HU2 hmono hule
  rw [hy] at HLB
  have hd0 := h0.raw.head.cell 0
  have hd1 := h0.raw.head.cell 1
  have hb0 := hl0.cell 0
  have H0 := Lib.hid h0
  have HL0 := Lib.hid hl0
  have HB0 := Lib.hid hB0
  have HQ := Lib.hid hq
  have HUu := Lib.hid hu
  have HVv := Lib.hid hv
  have HYy := Lib.hid hy
  have HR := Lib.hid h.rise
  have hsz0 : w.heap.size < W0.heap.size := hl0.lt
  clear h h0 hB0 hq hqz hu hv hy hl0
  rw [hW0] at hd0 hd1 hb0 HLen
  have HW := Lib.hid hW0
  go_enter Try.func13, Try.ntmps13
  go_wp2_with fail
  with_reducible refine HLen.out.mono ?_
  rintro e w' ⟨rfl, rfl⟩
  go_upto_region 6 with (fail)
  rw [← HW.out]
  clear hW0 hd0 hd1 hb0 HLen
  have hb0 := HL0.out.cell 0
  have hbd0 := below_drew' (Below.refl W0.heap.size W0)
  have ew : IntKind.i64.wrap ((q : Int) - 1) = (q : Int) - 1 := IntWalk.i64_in _ (by omega)
  go_cut [6, 7] (fun s6 s7 wx => ∃ bf : Nat, s6 = .pointer (some ⟨bf, 0, none⟩) ∧ s7 = .int .i64 (v : Int) ∧ Lies wx bf 3 [.int .i64 (u : Int)] ∧ Below W0.heap.size W0 wx)
  case first =>
    have hbda := fun o => below_drew' (below_box W0 o)
    go_region_held3 (fun w' => w'.cell? ⟨w.heap.size, 0, none⟩ = some (.pointer (some ⟨g, 0, none⟩)) ∧ Below W0.heap.size W0 w')
      ((first
        | exact ks_of hsz0 HL0.out hbd0
        | exact ks_of hsz0 HL0.out (hbda _)
        | exact ks_of hsz0 HL0.out hB2
        | exact ks_of hsz0 HL0.out (hB2.alloc hB2.size _)
        | exact ks_of hsz0 HL0.out (hB2.setCell hN1 _)
        | exact ks_of hsz0 HL0.out hB1
        | exact ks_of hsz0 HL0.out (hB1.alloc hB1.size _)))
      (first
        | (go_at_call 32; (with_reducible refine (HU1 _ hbd0).out.mono ?_); rintro e w1 ⟨rfl, hb1⟩; have hB1 := hbd0.trans (hb1.mono (Nat.le_refl _)))
        | (go_at_call 32; (with_reducible refine (HU1 _ (hbda _)).out.mono ?_); rintro e w1 ⟨rfl, hb1⟩; have hB1 := (hbda _).trans (hb1.mono (hbda _).size); have hN1 := Nat.le_refl W0.heap.size; have hM := (lies_new W0 3 [.int .i64 0]).drew.below hb1 (by simp))
        | (go_at_call 32; (with_reducible refine (HU2 _ hB1).out.mono ?_); rintro e w2 ⟨rfl, hb2⟩; have hB2 := hB1.trans (hb2.mono hB1.size); try have hN := hM.below hb2 hM.lt; try have hNc := hN.cell 0; try have hNf := hN.free 0)
        | (go_at_call 32; (with_reducible refine (HU2 _ (hB1.alloc hB1.size _)).out.mono ?_); rintro e w2 ⟨rfl, hb2⟩; have hB2 := (hB1.alloc hB1.size _).trans (hb2.mono (hB1.alloc hB1.size _).size); have hN1 := hB1.size; have hN := (lies_new w1 3 [.int .i64 0]).below hb2 (by simp); have hNc := hN.cell 0; have hNf := hN.free 0))
    all_goals
      go_wp2_with fail
      go_meet
      first
        | exact ⟨w2.heap.size, rfl, rfl, lies_new w2 3 [.int .i64 (u : Int)], hB2.alloc hB2.size _⟩
        | exact ⟨_, rfl, rfl, hN.put 0 _, hB2.setCell hN1 _⟩
  case rest =>
    obtain ⟨bf, rfl, rfl, hlf, hBx⟩ := hcut
    have hsx := HL0.out.below hBx hsz0
    have hx := H0.out.keep hBx
    have hs0 := hsx.cell 0
    have hd1 := hx.raw.head.cell 1
    have HX := Lib.hid hx
    have HSX := Lib.hid hsx
    have HLF := Lib.hid hlf
    have HBX := Lib.hid hBx
    clear hx hsx hlf hBx hb0 hbd0 ew
    go_upto_region 8 with (first | (go_at_call 29; (with_reducible refine (HLB _).out.mono ?_); rintro e w' ⟨rfl, rfl⟩))
    have hbl := lies_new wc 43 [.int .u64 (y : Int)]
    have hbw := below_box wc (.cells #[.int .u64 (y : Int)] 43)
    have HF := Lib.hid (HLF.out.below hbw HLF.out.lt)
    have HSS := Lib.hid (HSX.out.below hbw HSX.out.lt)
    have HSp := Lib.hid (HX.out.keep hbw)
    have HBL := Lib.hid hbl
    have HBW := Lib.hid (HBX.out.trans (hbw.mono HBX.out.size))
    obtain ⟨bl, hble⟩ : ∃ bl, wc.heap.size = bl := ⟨_, rfl⟩
    rw [hble] at HBL ⊢
    clear hs0 hd1 hbl hbw hble
    generalize wc.alloc (.cells #[.int .u64 (y : Int)] 43) = wl at HF HSS HSp HBL HBW ⊢
    have HSe := Lib.hid (rsearch_any (W := wl.drew) (HSp.out.drewN 1) w.heap.size bf bl u v y HSS.out.drew HF.out.drew HBL.out.drew hmono hule (fun i j hij hj hi => by
      by_cases e : i = j
      · rw [← e]; exact hi
      · obtain ⟨a1, b1⟩ := HR.out.under_cut (P := 2 ^ k) q
        obtain ⟨a2, b2⟩ := HR.out.under_cut (P := 2 ^ k) (q + 1)
        rw [HUu.out] at b1
        rw [HVv.out] at a2
        have e1 := b1 (u + i) (by omega) (by omega)
        have e2 := a2 (u + i) (by omega)
        have e3 := b1 (u + j) (by omega) (by omega)
        have e4 := a2 (u + j) (by omega)
        have := (Pl.same_quot (show l (u + i) / 2 ^ k = l (u + j) / 2 ^ k by omega)).1 (HR.out.lt (show u + i < u + j by omega) (by omega))
        omega))
    have hf0 := HF.out.cell 0
    have hvu : (v : Int) - (u : Int) = ((v - u : Nat) : Int) := by omega
    have hvw : IntKind.i64.wrap ((v - u : Nat) : Int) = ((v - u : Nat) : Int) := IntWalk.i64_in _ (by omega)
    go_region_held3 (fun w' => w'.cell? ⟨bf, 0, none⟩ = some (.int .i64 (u : Int))) ((first | exact hf0 | go_keep))
      (first | (go_at_call 33; (with_reducible refine HSe.out.mono ?_); rintro e w3 ⟨r, rfl, hr1, hr2, hr3, qq, rfl⟩; have hr4 : (u : Int) + (r : Int) ≤ 4194304 := (by omega)))
    all_goals
      have hcnt : Pl.cnt (fun i => decide (l i < x)) m = u + r := by
        have e := HR.out.rank_parts (P := 2 ^ k) (x := x) (r := r) (by rw [HQ.out, HUu.out, HVv.out]; exact hr1) (fun t ht => by
          rw [HQ.out, HUu.out, HYy.out]
          have := hr2 t ht
          simpa using this) (fun t ht1 ht2 => by
          rw [HQ.out, HUu.out, HVv.out] at ht2
          rw [HQ.out, HUu.out, HYy.out]
          have := hr3 t ht1 ht2
          simpa using this)
        rw [HQ.out, HUu.out] at e
        exact e
      have HCnt := Lib.hid hcnt
      clear hcnt
      go_wp2_with fail
      go_ret
      exact ⟨ret_i64 (by rw [HCnt.out]; exact (IntWalk.i64_in _ (by omega)).trans (by omega)), below_drewN' (HB0.out.trans (HBW.out.mono HB0.out.size)) _⟩

set_option maxHeartbeats 800000 in
theorem srank_low (p : Option Addr) (x : Int) (hx : x ≤ 0) (w : World) :
    Calls Try.prog 13 #[.pointer p, .int .i64 x] w fun e w' => e = .returned (.int .i64 0) ∧ Below w.heap.size w w' := by
  go_enter Try.func13, Try.ntmps13
  go_wp2_with fail
  go_ret
  exact ⟨rfl, below_box w _⟩
set_option maxHeartbeats 800000 in
theorem srank_high (h : Spl w B g h1 h2 gl gls n k m hs ls l) (x : Int) (hx : (n : Int) ≤ x) :
    Calls Try.prog 13 #[.pointer (some ⟨g, 0, none⟩), .int .i64 x] w fun e w' => e = .returned (.int .i64 (m : Int)) ∧ Below w.heap.size w w' := by
  obtain ⟨W0, hW0⟩ : ∃ W0, W0 = w.alloc (.cells #[.pointer (some ⟨g, 0, none⟩)] 24) := ⟨_, rfl⟩
  have hB0 : Below w.heap.size w W0 := by rw [hW0]; exact below_box w _
  have hl0 : Lies W0 w.heap.size 24 [.pointer (some ⟨g, 0, none⟩)] := by rw [hW0]; exact lies_new w _ _
  have h0 := h.keep hB0
  have hpos := h.pos
  have hn := h.rise.few
  have hmz : ((m : Int) == 0) = false := by rw [beq_eq_false_iff_ne]; omega
  have HLen := Lib.hid (slen_any h0)
  have hd0 := h0.raw.head.cell 0
  have hb0 := hl0.cell 0
  have hx0 : 0 < x := by omega
  have HB0 := Lib.hid hB0
  clear h h0 hl0 hB0
  rw [hW0] at hd0 hb0 HLen HB0
  clear hW0
  go_enter Try.func13, Try.ntmps13
  go_wp2_with fail
  with_reducible refine HLen.out.mono ?_
  rintro e w' ⟨rfl, rfl⟩
  go_wp2_with fail
  with_reducible refine HLen.out.mono ?_
  rintro e w' ⟨rfl, rfl⟩
  go_wp2_with fail
  go_ret
  exact ⟨rfl, HB0.out⟩
theorem srank_nil (x : Int) (w : World) :
    Calls Try.prog 13 #[.pointer none, .int .i64 x] w fun e w' => e = .returned (.int .i64 0) ∧ Below w.heap.size w w' := by
  by_cases hx : x ≤ 0
  · exact srank_low _ x hx w
  · go_enter Try.func13, Try.ntmps13
    go_wp2_with fail
    with_reducible refine (slen_nil _).mono ?_
    rintro e w' ⟨rfl, rfl⟩
    go_wp2_with fail
    go_ret
    exact ⟨rfl, below_box w _⟩

/-- how many places are below x. -/
def belowN (l : Nat → Nat) (m : Nat) (x : Int) : Nat := Pl.cnt (fun i => decide ((l i : Int) < x)) m
/-- Rank, of whatever x. -/
theorem srank_any (h : Spl w B g h1 h2 gl gls n k m hs ls l) (x : Int) :
    Calls Try.prog 13 #[.pointer (some ⟨g, 0, none⟩), .int .i64 x] w fun e w' => e = .returned (.int .i64 ((belowN l m x : Nat) : Int)) ∧ Below w.heap.size w w' := by
  unfold belowN
  by_cases h0 : x ≤ 0
  · have e : Pl.cnt (fun i => decide ((l i : Int) < x)) m = 0 := Pl.cnt_zero fun _ _ => by simp; omega
    rw [e]
    exact srank_low _ x h0 w
  · by_cases h1' : (n : Int) ≤ x
    · have e : Pl.cnt (fun i => decide ((l i : Int) < x)) m = m := Pl.cnt_full fun i hi => by have := h.rise.below i hi; simp; omega
      rw [e]
      exact srank_high h x h1'
    · obtain ⟨y, rfl⟩ : ∃ y : Nat, x = y := ⟨x.toNat, by omega⟩
      have e : Pl.cnt (fun i => decide ((l i : Int) < (y : Int))) m = Pl.cnt (fun i => decide (l i < y)) m := Pl.cnt_congr fun i _ => by simp
      rw [e]
      exact srank_in h y (by omega) (by omega)
end
end Go.Proofs.Ytmcoehimjfgakaa
