/- The contract of From of package sparse. -/
import Derived.Test.YtmcoehimjfgakaaSpNew
namespace Go.Proofs.Ytmcoehimjfgakaa
open Go.RowKit

/-- what From leaves of words that are a list. -/
def FromSt (w : World) (n m : Nat) (hs ls : List Nat) (l : Nat → Nat) (e : Ending) (w' : World) : Prop :=
  ∃ g : Nat, e = .returned (.tuple #[.pointer (some ⟨g, 0, none⟩), .int .i64 0]) ∧ St w' w.heap.size g n m hs ls l ∧ Below w.heap.size w w'

theorem sfrom_bad (n m : Int) (v1 v2 : Value) (w : World) (hb : ¬ (0 ≤ n ∧ n ≤ 4194304) ∨ m < 0 ∨ n < m) (h1 : ∃ A n c, v1 = .slice A n c) (h2 : ∃ A n c, v2 = .slice A n c) :
    Calls Try.prog 20 #[.int .i64 n, .int .i64 m, v1, v2] w (NoSt 2 w) := by
  obtain ⟨A1, n1, c1, rfl⟩ := h1
  obtain ⟨A2, n2, c2, rfl⟩ := h2
  have HM := fun W => Lib.hid (mayBound_any n W)
  by_cases hn : 0 ≤ n ∧ n ≤ 4194304
  · have e1 : bndB n = true := by unfold bndB; simpa using hn
    rw [e1] at HM
    obtain ⟨hn0, hn1⟩ := hn
    by_cases hm : m < 0
    · clear hb e1
      go_enter Try.func20, Try.ntmps20
      go_wp2_with fail
      with_reducible refine (HM _).out.mono ?_
      rintro e w' ⟨rfl, rfl⟩
      go_wp2_with fail
      go_ret2
      exact ⟨rfl, Below.refl _ _⟩
    · have hnm : n < m := by omega
      clear hb e1
      go_enter Try.func20, Try.ntmps20
      go_wp2_with fail
      with_reducible refine (HM _).out.mono ?_
      rintro e w' ⟨rfl, rfl⟩
      go_wp2_with fail
      go_ret2
      exact ⟨rfl, Below.refl _ _⟩
  · have e1 : bndB n = false := by unfold bndB; simpa using hn
    rw [e1] at HM
    clear e1 hb hn
    go_enter Try.func20, Try.ntmps20
    go_wp2_with fail
    with_reducible refine (HM _).out.mono ?_
    rintro e w' ⟨rfl, rfl⟩
    go_wp2_with fail
    go_ret2
    exact ⟨rfl, Below.refl _ _⟩

theorem sfrom_zero (n : Nat) (A1 A2 : Option Addr) (c1 c2 : Nat) (l : Nat → Nat) (w : World) (hn : n ≤ 4194304) :
    Calls Try.prog 20 #[.int .i64 (n : Int), .int .i64 0, .slice A1 0 c1, .slice A2 0 c2] w (FromSt w n 0 [] [] l) := by
  have HM := fun W => Lib.hid (mayBound_any (n : Int) W)
  have e1 : bndB (n : Int) = true := by unfold bndB; simp; omega
  rw [e1] at HM
  clear e1
  go_enter Try.func20, Try.ntmps20
  go_wp2_with fail
  with_reducible refine (HM _).out.mono ?_
  rintro e w' ⟨rfl, rfl⟩
  go_wp2_with fail
  go_ret2
  exact ⟨w.heap.size, rfl, .inl ⟨rfl, lies_new w 51 [.int .i64 (n : Int), .int .i64 0, .pointer none, .pointer none, .pointer none], Nat.le_refl _⟩, below_box w _⟩
theorem sfrom_zero_no (n : Nat) (A1 A2 : Option Addr) (n1 n2 c1 c2 : Nat) (w : World) (hn : n ≤ 4194304) (h : 0 < n1 ∨ 0 < n2) :
    Calls Try.prog 20 #[.int .i64 (n : Int), .int .i64 0, .slice A1 n1 c1, .slice A2 n2 c2] w (NoSt 10 w) := by
  have HM := fun W => Lib.hid (mayBound_any (n : Int) W)
  have e1 : bndB (n : Int) = true := by unfold bndB; simp; omega
  rw [e1] at HM
  clear e1
  by_cases h1 : 0 < n1
  · clear h
    go_enter Try.func20, Try.ntmps20
    go_wp2_with fail
    with_reducible refine (HM _).out.mono ?_
    rintro e w' ⟨rfl, rfl⟩
    go_wp2_with fail
    go_ret2
    exact ⟨rfl, Below.refl _ _⟩
  · have h2 : 0 < n2 := by omega
    obtain rfl : n1 = 0 := by omega
    clear h h1
    go_enter Try.func20, Try.ntmps20
    go_wp2_with fail
    with_reducible refine (HM _).out.mono ?_
    rintro e w' ⟨rfl, rfl⟩
    go_wp2_with fail
    go_ret2
    exact ⟨rfl, Below.refl _ _⟩

/-- bits and low numbers that are good are a list. -/
theorem fit_of_good {n m : Nat} {hs ls : List Nat} (h1 : Pl.Small hs) (h2 : Pl.Small ls) (hC : Pl.bitsOf n m (2 ^ Pl.lw n m) ≤ 4194304) (hn : n ≤ 4194304) (hj1 : justB hs (Pl.bitsOf n m (2 ^ Pl.lw n m)) = true) (hj2 : justB ls (max 1 (Pl.lw n m) * m) = true)
    (ho : Pl.cnt (Pl.bitAt hs) (Pl.bitsOf n m (2 ^ Pl.lw n m)) = m)
    (hg : Pl.Good n m (2 ^ Pl.lw n m) (Pl.place (Pl.bitAt hs) (Pl.bitsOf n m (2 ^ Pl.lw n m)) (2 ^ Pl.lw n m) (Pl.getN ls (max 1 (Pl.lw n m)))) (Pl.getN ls (max 1 (Pl.lw n m)))) :
    ∃ l, Fit n m hs ls l := by
  have hw := Pl.lw_le (m := m) hn
  refine ⟨_, hg.rise, ?_, ?_⟩
  · exact (Bits.of_just h1 hC hj1).agree fun j hj => (Pl.place_hi ho hg.low hj).symm
  · refine Holds.agree (holds_just h2 (by omega) (by omega) hj2) fun i hi => ?_
    exact (Pl.place_mod (hg.low i hi)).symm
theorem good_of_fit {n m k : Nat} {l : Nat → Nat} (hr : Pl.Rise n m l) : Pl.Good n m (2 ^ k) (Pl.place (Pl.hi l (2 ^ k) m) (Pl.bitsOf n m (2 ^ k)) (2 ^ k) (fun i => l i % 2 ^ k)) (fun i => l i % 2 ^ k) :=
  ⟨fun _ _ => Nat.mod_lt _ (Nat.two_pow_pos k), hr.same fun _ hi => (hr.place (fun _ _ => rfl) (fun _ _ => rfl) hi).symm⟩

/-- a sparse list as From lays it, ahead of what formed tells. -/
theorem raw_made {w : World} {B B' h1 h2 gl gls n k m C : Nat} {os ws : List Nat} {f : Nat → Bool} {x : Nat → Nat} (hh : Hs w B' h1 h2 C os f) (hf : Full w gl gls (max 1 k) m ws x)
    (hk : k ≤ 22) (hn : n ≤ 4194304) (hB : B ≤ B') (hB2 : B ≤ w.heap.size) (hgl : B ≤ gl) (hgls : B ≤ gls) :
    Raw (w.alloc (.cells #[.int .i64 (n : Int), .int .i64 (k : Int), .pointer (some ⟨h1, 0, none⟩), .pointer (some ⟨h2, 0, none⟩), .pointer (some ⟨gl, 0, none⟩)] 51)) B w.heap.size h1 h2 gl gls n k m C os ws f x :=
  ⟨lies_new w 51 [.int .i64 (n : Int), .int .i64 (k : Int), .pointer (some ⟨h1, 0, none⟩), .pointer (some ⟨h2, 0, none⟩), .pointer (some ⟨gl, 0, none⟩)],
    (hh.keep (below_box w _)).down hB, hf.below (below_box w _) hf.pk.head.lt hf.pk.body.lt, hk, hn, hB2, hgl, hgls⟩

theorem Raw.agree {w : World} {B g h1 h2 gl gls n k m c : Nat} {hs ls : List Nat} {f f' : Nat → Bool} {x x' : Nat → Nat} (h : Raw w B g h1 h2 gl gls n k m c hs ls f x) (ef : ∀ j, j < c → f j = f' j) (ex : ∀ i, i < m → x i = x' i) : Raw w B g h1 h2 gl gls n k m c hs ls f' x' :=
  ⟨h.head, h.high.agree ef, h.low.agree ex, h.width, h.few, h.lo⟩
/-- good bits and low numbers, as they lie, are a sparse list. -/
theorem st_of_good {w : World} {B g h1 h2 gl gls n m : Nat} {hs ls : List Nat} (h : Raw w B g h1 h2 gl gls n (Pl.lw n m) m (Pl.bitsOf n m (2 ^ Pl.lw n m)) hs ls (Pl.bitAt hs) (Pl.getN ls (max 1 (Pl.lw n m)))) (hm : 1 ≤ m)
    (ho : Pl.cnt (Pl.bitAt hs) (Pl.bitsOf n m (2 ^ Pl.lw n m)) = m)
    (hg : Pl.Good n m (2 ^ Pl.lw n m) (Pl.place (Pl.bitAt hs) (Pl.bitsOf n m (2 ^ Pl.lw n m)) (2 ^ Pl.lw n m) (Pl.getN ls (max 1 (Pl.lw n m)))) (Pl.getN ls (max 1 (Pl.lw n m)))) :
    ∃ l, Fit n m hs ls l ∧ St w B g n m hs ls l := by
  have h' := h.agree (f' := Pl.hi (Pl.place (Pl.bitAt hs) (Pl.bitsOf n m (2 ^ Pl.lw n m)) (2 ^ Pl.lw n m) (Pl.getN ls (max 1 (Pl.lw n m)))) (2 ^ Pl.lw n m) m)
    (x' := fun i => Pl.place (Pl.bitAt hs) (Pl.bitsOf n m (2 ^ Pl.lw n m)) (2 ^ Pl.lw n m) (Pl.getN ls (max 1 (Pl.lw n m))) i % 2 ^ Pl.lw n m) (fun j hj => (Pl.place_hi ho hg.low hj).symm) (fun i hi => (Pl.place_mod (hg.low i hi)).symm)
  have hf : Fit n m hs ls (Pl.place (Pl.bitAt hs) (Pl.bitsOf n m (2 ^ Pl.lw n m)) (2 ^ Pl.lw n m) (Pl.getN ls (max 1 (Pl.lw n m)))) := ⟨hg.rise, h'.high.bits, h'.low.holds⟩
  exact ⟨_, hf, .inr ⟨hf, h1, h2, gl, gls, h', hg.rise, hm⟩⟩
theorem good_of_fit' {n m : Nat} {hs ls : List Nat} {l : Nat → Nat} (h : Fit n m hs ls l) :
    Pl.Good n m (2 ^ Pl.lw n m) (Pl.place (Pl.bitAt hs) (Pl.bitsOf n m (2 ^ Pl.lw n m)) (2 ^ Pl.lw n m) (Pl.getN ls (max 1 (Pl.lw n m)))) (Pl.getN ls (max 1 (Pl.lw n m))) := by
  have hx : ∀ j, j < m → Pl.getN ls (max 1 (Pl.lw n m)) j = l j % 2 ^ Pl.lw n m := fun j hj => h.low.get hj
  refine ⟨fun j hj => ?_, h.rise.same fun i hi => (h.rise.place hx (fun b hb => h.high.same b hb) hi).symm⟩
  rw [hx j hj]
  exact Nat.mod_lt _ (Nat.two_pow_pos _)

/-- what From leaves of any words. -/
def FromPost (w : World) (n m : Nat) (hs ls : List Nat) (e : Ending) (w' : World) : Prop :=
  ((¬ ∃ l, Fit n m hs ls l) ∧ NoSt 10 w e w') ∨ ∃ l, Fit n m hs ls l ∧ FromSt w n m hs ls l e w'

set_option maxRecDepth 100000 in
set_option maxHeartbeats 3200000 in
/-- From, of words that are no list: ErrForm; of words that are one: it. -/
theorem sfrom_walk (n m : Nat) (A1 A2 : Option Addr) (c1 c2 : Nat) (hs ls : List Nat) (w : World) (hn : n ≤ 4194304) (hm : 1 ≤ m) (hmn : m ≤ n) (hm2 : n + m ≤ 4194304) (r1 : Rd w A1 hs) (r2 : Rd w A2 ls) (hA1 : A1 = none → hs.length = 0 ∧ c1 = 0)
    (hc1 : hs.length ≤ c1) (h200 : hs.length ≤ 65536) (h2max : ls.length ≤ 9223372036854775807) (s1 : Pl.Small hs) (s2 : Pl.Small ls) :
    Calls Try.prog 20 #[.int .i64 (n : Int), .int .i64 (m : Int), .slice A1 hs.length c1, .slice A2 ls.length c2] w (FromPost w n m hs ls) := by
  obtain ⟨k, hk⟩ : ∃ k, Pl.lw n m = k := ⟨_, rfl⟩
  have hk22 : k ≤ 22 := by rw [← hk]; exact Pl.lw_le hn
  obtain ⟨C, hC⟩ : ∃ C, Pl.bitsOf n m (2 ^ k) = C := ⟨_, rfl⟩
  have hC2 : C ≤ 4194304 := by
    rw [← hC]
    have : (n - 1) / 2 ^ k ≤ n - 1 := Nat.div_le_self _ _
    unfold Pl.bitsOf
    omega
  obtain ⟨Wd, hWd⟩ : ∃ Wd, max 1 k = Wd := ⟨_, rfl⟩
  have hW1 : 1 ≤ Wd := by omega
  have hW64 : Wd ≤ 64 := by omega
  have eM : max (1 : Int) (k : Int) = (Wd : Int) := by omega
  have HM := fun W => Lib.hid (mayBound_any (n : Int) W)
  have e1 : bndB (n : Int) = true := by unfold bndB; simp; omega
  rw [e1] at HM
  have HW := fun W => Lib.hid (lowWidth_any n m hn hm (by omega) W)
  rw [hk] at HW
  have HC := fun W => Lib.hid (highCount_any n m k hn (by omega) (by omega) hk22 W)
  rw [hC] at HC
  have hmz : ((m : Int) == 0) = false := by rw [beq_eq_false_iff_ne]; omega
  have HR1 := Lib.hid r1
  have HR2 := Lib.hid r2
  have HA1 := Lib.hid hA1
  cases hj1 : justB hs C with
  | false =>
    have hFit : ¬ ∃ l, Fit n m hs ls l := by
      rintro ⟨l, hf⟩
      have := hf.high.just
      rw [hk, hC, hj1] at this
      cases this
    have HQ := Lib.hid hFit
    have HH := Lib.hid (highsOf_no C c1 A1 hs hC2 w r1 hA1 hc1 h200 s1 hj1)
    clear hFit e1 hk hC hWd r1 r2 hA1 hj1
    go_enter Try.func20, Try.ntmps20
    go_wp2_with fail
    with_reducible refine (HM _).out.mono ?_
    rintro e w' ⟨rfl, rfl⟩
    go_wp2_with fail
    with_reducible refine (HW _).out.mono ?_
    rintro e w' ⟨rfl, rfl⟩
    go_wp2_with fail
    with_reducible refine (HC _).out.mono ?_
    rintro e w' ⟨rfl, rfl⟩
    go_wp2_with fail
    with_reducible refine HH.out.mono ?_
    rintro e w1 ⟨rfl, hb1⟩
    go_wp2_with fail
    go_ret2
    exact .inl ⟨HQ.out, rfl, hb1.alloc hb1.size _⟩
  | true =>
    have HH := Lib.hid (highsOf_any C c1 A1 hs hC2 w r1 hA1 hc1 s1 hj1)
    have hB1 := Bits.of_just s1 hC2 hj1
    by_cases hone : Pl.cnt (Pl.bitAt hs) C = m
    · cases hj2 : justB ls (Wd * m) with
      | false =>
        have hFit : ¬ ∃ l, Fit n m hs ls l := by
          rintro ⟨l, hf⟩
          have e := just_of_holds hf.low
          rw [hk, hWd, Nat.mul_comm, hj2] at e
          cases e
        have HQ := Lib.hid hFit
        have HO1 := Lib.hid hone
        have HJ2 := Lib.hid hj2
        clear hFit e1 hk hC hWd r1 r2 hA1 hj1 hone hj2
        go_enter Try.func20, Try.ntmps20
        go_wp2_with fail
        with_reducible refine (HM _).out.mono ?_
        rintro e w' ⟨rfl, rfl⟩
        go_wp2_with fail
        with_reducible refine (HW _).out.mono ?_
        rintro e w' ⟨rfl, rfl⟩
        go_wp2_with fail
        with_reducible refine (HC _).out.mono ?_
        rintro e w' ⟨rfl, rfl⟩
        go_wp2_with fail
        with_reducible refine HH.out.mono ?_
        rintro e w1 ⟨h1, h2, rfl, hh, hb1⟩
        have hbx := below_box w1 (.cells #[.pointer (some ⟨h1, 0, none⟩), .pointer (some ⟨h2, 0, none⟩)] 48)
        have ho := hones_any (hh.keep hbx)
        rw [HO1.out] at ho
        have HO := Lib.hid ho
        have HB2 := Lib.hid (hb1.trans (hbx.mono hb1.size))
        unfold hv at HO ⊢
        clear hh hbx ho
        go_wp2_with fail
        with_reducible refine HO.out.mono ?_
        rintro e w2 ⟨rfl, hb2⟩
        have HB3 := Lib.hid (HB2.out.trans (hb2.mono HB2.out.size))
        have HF := Lib.hid (from_rd_no Wd m c2 A2 ls hW1 hW64 (by omega) w2 (HR2.out.keep HB3.out) h2max HJ2.out)
        go_wp2_with fail
        with_reducible refine HF.out.mono ?_
        rintro e w' ⟨rfl, rfl⟩
        go_wp2_with fail
        go_ret2
        exact .inl ⟨HQ.out, rfl, HB3.out⟩
      | true =>
        have HO1 := Lib.hid hone
        have HJ2 := Lib.hid hj2
        have hholds := holds_just s2 hW1 hW64 hj2
        have HHo := Lib.hid hholds
        have HWd := Lib.hid hWd
        have HK := Lib.hid hk
        have HCC := Lib.hid hC
        clear e1 hk hC hWd r1 r2 hA1 hj1 hone hj2 hholds
        go_enter Try.func20, Try.ntmps20
        go_wp2_with fail
        with_reducible refine (HM _).out.mono ?_
        rintro e w' ⟨rfl, rfl⟩
        go_wp2_with fail
        with_reducible refine (HW _).out.mono ?_
        rintro e w' ⟨rfl, rfl⟩
        go_wp2_with fail
        with_reducible refine (HC _).out.mono ?_
        rintro e w' ⟨rfl, rfl⟩
        go_wp2_with fail
        with_reducible refine HH.out.mono ?_
        rintro e w1 ⟨h1, h2, rfl, hh, hb1⟩
        have hbx := below_box w1 (.cells #[.pointer (some ⟨h1, 0, none⟩), .pointer (some ⟨h2, 0, none⟩)] 48)
        have hlx := lies_new w1 48 [.pointer (some ⟨h1, 0, none⟩), .pointer (some ⟨h2, 0, none⟩)]
        have ho := hones_any (hh.keep hbx)
        rw [HO1.out] at ho
        have HO := Lib.hid ho
        have HB2 := Lib.hid (hb1.trans (hbx.mono hb1.size))
        have HHs := Lib.hid (hh.keep hbx)
        unfold hv at HO ⊢
        clear hh hbx ho
        go_wp2_with fail
        with_reducible refine HO.out.mono ?_
        rintro e w2 ⟨rfl, hb2⟩
        have HB3 := Lib.hid (HB2.out.trans (hb2.mono HB2.out.size))
        have HF := Lib.hid (from_rd Wd m c2 A2 ls hW1 hW64 (by omega) w2 (HR2.out.keep HB3.out) HJ2.out)
        have HHs2 := Lib.hid (HHs.out.keep hb2)
        have hlx2 := hlx.below hb2 (by simp)
        clear hlx
        go_wp2_with fail
        with_reducible refine HF.out.mono ?_
        rintro e w3 ⟨gl, gls, rfl, hgl, hgls, hp, hb3⟩
        have hlx3 := hlx2.below hb3 hlx2.lt
        have hd0 := hlx3.cell 0
        have hd1 := hlx3.cell 1
        have hB3 := HB3.out.trans (hb3.mono HB3.out.size)
        have hfull : Full w3 gl gls (max 1 k) m ls (Pl.getN ls Wd) := by
          rw [HWd.out]
          exact ⟨hp, HHo.out, by omega⟩
        have hraw := raw_made (B := w.heap.size) (n := n) (HHs2.out.keep hb3) hfull hk22 hn (Nat.le_refl _) hB3.size (Nat.le_trans HB3.out.size hgl) (Nat.le_trans HB3.out.size hgls)
        have HRaw := Lib.hid hraw
        have HFo := Lib.hid (formed_raw hraw HO1.out)
        have HB4 := Lib.hid (hB3.trans ((below_box w3 (.cells #[.int .i64 (n : Int), .int .i64 (k : Int), .pointer (some ⟨h1, 0, none⟩), .pointer (some ⟨h2, 0, none⟩), .pointer (some ⟨gl, 0, none⟩)] 51)).mono hB3.size))
        clear hraw hfull hp hb3 hlx2 hB3
        go_wp2_with fail
        with_reducible refine HFo.out.mono ?_
        rintro e w5 ⟨vb, rfl, hgood, hb5⟩
        have HG := Lib.hid hgood
        clear hgood
        cases vb with
        | false =>
          go_wp2_with fail
          go_ret2
          refine .inl ⟨?_, rfl, HB4.out.trans (hb5.mono HB4.out.size)⟩
          rintro ⟨l, hf⟩
          have hg := good_of_fit' hf
          rw [HK.out, HCC.out, HWd.out] at hg
          have := HG.out.2 hg
          cases this
        | true =>
          have hg := HG.out.1 rfl
          have hr5 := HRaw.out.keep hb5
          have hst : ∃ l, Fit n m hs ls l ∧ St w5 w.heap.size w3.heap.size n m hs ls l := by
            have e1 := HK.out
            subst e1
            have e2 := HCC.out
            subst e2
            have e3 := HWd.out
            subst e3
            exact st_of_good hr5 hm HO1.out hg
          obtain ⟨l, hf, hst⟩ := hst
          go_wp2_with fail
          go_ret2
          exact .inr ⟨l, hf, w3.heap.size, rfl, hst, HB4.out.trans (hb5.mono HB4.out.size)⟩
    · have hFit : ¬ ∃ l, Fit n m hs ls l := by
        rintro ⟨l, hf⟩
        have e := hf.rise.ones (P := 2 ^ Pl.lw n m)
        have hb := hf.high
        rw [hk, hC] at e hb
        rw [hb.cnt_same (Nat.le_refl _)] at e
        exact hone e
      have HQ := Lib.hid hFit
      have hne : (((Pl.cnt (Pl.bitAt hs) C : Nat) : Int) != (m : Int)) = true := by simp; omega
      have hlt := Pl.cnt_le (Pl.bitAt hs) C
      clear hFit e1 hk hC hWd r1 r2 hA1 hj1
      go_enter Try.func20, Try.ntmps20
      go_wp2_with fail
      with_reducible refine (HM _).out.mono ?_
      rintro e w' ⟨rfl, rfl⟩
      go_wp2_with fail
      with_reducible refine (HW _).out.mono ?_
      rintro e w' ⟨rfl, rfl⟩
      go_wp2_with fail
      with_reducible refine (HC _).out.mono ?_
      rintro e w' ⟨rfl, rfl⟩
      go_wp2_with fail
      with_reducible refine HH.out.mono ?_
      rintro e w1 ⟨h1, h2, rfl, hh, hb1⟩
      have hbx := below_box w1 (.cells #[.pointer (some ⟨h1, 0, none⟩), .pointer (some ⟨h2, 0, none⟩)] 48)
      have HO := Lib.hid (hones_any (hh.keep hbx))
      have HB2 := Lib.hid (hb1.trans (hbx.mono hb1.size))
      unfold hv at HO ⊢
      clear hh hbx
      generalize Pl.cnt (Pl.bitAt hs) C = t at HO hone hne hlt
      go_wp2_with fail
      with_reducible refine HO.out.mono ?_
      rintro e w2 ⟨rfl, hb2⟩
      go_wp2_with fail
      go_ret2
      exact .inl ⟨HQ.out, rfl, HB2.out.trans (hb2.mono HB2.out.size)⟩
end Go.Proofs.Ytmcoehimjfgakaa
