/- The contract of New of package sparse. -/
import Derived.Test.YtmcoehimjfgakaaSt
namespace Go.Proofs.Ytmcoehimjfgakaa
open Go.RowKit

/-- what New and From leave. -/
def NewSt (w : World) (n m : Nat) (l : Nat → Nat) (e : Ending) (w' : World) : Prop :=
  ∃ (g : Nat) (hs ls : List Nat), e = .returned (.tuple #[.pointer (some ⟨g, 0, none⟩), .int .i64 0]) ∧ St w' w.heap.size g n m hs ls l ∧ Below w.heap.size w w'
/-- nothing, and ErrArg. -/
def NoSt (c : Int) (w : World) (e : Ending) (w' : World) : Prop := e = .returned (.tuple #[.pointer none, .int .i64 c]) ∧ Below w.heap.size w w'

theorem snew_bad (n : Int) (A : Option Addr) (m c : Nat) (V : Nat → Int) (B : Nat) (w : World) (hm : m ≤ 4194304) (ho : Its w B A m V) (hb : rightS n V m = false) :
    Calls Try.prog 9 #[.int .i64 n, .slice A m c] w (NoSt 2 w) := by
  have HR := fun W (hW : Its W B A m V) => Lib.hid (rise_any n A m c V B W hm hW)
  have HM := fun W => Lib.hid (mayBound_any n W)
  have HO := Lib.hid ho
  clear ho
  by_cases hn : 0 ≤ n ∧ n ≤ 4194304
  · have e1 : bndB n = true := by unfold bndB; simpa using hn
    have e2 : riseB n V m = false := by unfold rightS at hb; simpa [hn] using hb
    rw [e1] at HM
    rw [e2] at HR
    clear e1 e2 hb
    go_enter Try.func9, Try.ntmps9
    go_wp2_with fail
    with_reducible refine (HM _).out.mono ?_
    rintro e w' ⟨rfl, rfl⟩
    go_wp2_with fail
    with_reducible refine (HR _ HO.out).out.mono ?_
    rintro e w' ⟨rfl, rfl⟩
    go_wp2_with fail
    go_ret2
    exact ⟨rfl, Below.refl _ _⟩
  · have e1 : bndB n = false := by unfold bndB; simpa using hn
    rw [e1] at HM
    clear e1 hb hn
    go_enter Try.func9, Try.ntmps9
    go_wp2_with fail
    with_reducible refine (HM _).out.mono ?_
    rintro e w' ⟨rfl, rfl⟩
    go_wp2_with fail
    go_ret2
    exact ⟨rfl, Below.refl _ _⟩

theorem snew_zero (n : Nat) (A : Option Addr) (c : Nat) (l : Nat → Nat) (w : World) (hn : n ≤ 4194304) :
    Calls Try.prog 9 #[.int .i64 (n : Int), .slice A 0 c] w (NewSt w n 0 l) := by
  have HR := fun W => Lib.hid (rise_any (n : Int) A 0 c (fun _ => 0) 0 W (by omega) (fun k hk => absurd hk (Nat.not_lt_zero _)))
  have HM := fun W => Lib.hid (mayBound_any (n : Int) W)
  have e1 : bndB (n : Int) = true := by unfold bndB; simp; omega
  have e2 : riseB (n : Int) (fun _ => 0) 0 = true := rfl
  rw [e1] at HM
  rw [e2] at HR
  clear e1 e2
  go_enter Try.func9, Try.ntmps9
  go_wp2_with fail
  with_reducible refine (HM _).out.mono ?_
  rintro e w' ⟨rfl, rfl⟩
  go_wp2_with fail
  with_reducible refine (HR _).out.mono ?_
  rintro e w' ⟨rfl, rfl⟩
  go_wp2_with fail
  go_ret2
  exact ⟨w.heap.size, [], [], rfl, .inl ⟨rfl, lies_new w 51 [.int .i64 (n : Int), .int .i64 0, .pointer none, .pointer none, .pointer none], Nat.le_refl _⟩, below_box w _⟩

/-- words with the high bits of the first i places. -/
structure Put (l : Nat → Nat) (P i L : Nat) (os : List Nat) : Prop where
  len : os.length = L
  small : Pl.Small os
  bits : ∀ j, Pl.bitAt os j = Pl.hi l P i j
theorem put_zero (l : Nat → Nat) (P L : Nat) : Put l P 0 L (List.replicate L 0) := ⟨by simp, Pl.small_zeros _, fun j => by rw [Pl.bitAt_zeros, Pl.hi_zero]⟩
theorem Put.next {l : Nat → Nat} {P i L b : Nat} {os : List Nat} (h : Put l P i L os) (hb : l i / P + i = b) (hL : b < 64 * L) : Put l P (i + 1) L (setb os b) :=
  ⟨by rw [setb_length, h.len], setb_small h.small _, fun j => by rw [setb_at (by rw [h.len]; exact hL), h.bits j, Pl.hi_succ, hb]⟩
theorem Put.all {n m P : Nat} {l : Nat → Nat} {os : List Nat} (h : Put l P m ((Pl.bitsOf n m P + 63) / 64) os) (hr : Pl.Rise n m l) (hc : Pl.bitsOf n m P ≤ 4194304) : Bits os (Pl.bitsOf n m P) (Pl.hi l P m) :=
  ⟨hc, h.len, h.small, fun i _ => h.bits i, fun i hi => by
    rw [h.bits i]
    exact Pl.hi_no fun j hj e => by have := hr.pos_lt (P := P) hj; omega⟩

theorem Full.agree {w : World} {g gs width n : Nat} {ws : List Nat} {x y : Nat → Nat} (h : Full w g gs width n ws x) (e : ∀ i, i < n → x i = y i) : Full w g gs width n ws y := ⟨h.pk, Holds.agree h.holds e, h.few⟩
/-- out of its parts a sparse list is made. -/
theorem spl_made {w : World} {B B' h1 h2 gl gls n k m : Nat} {os ws : List Nat} {l : Nat → Nat} (hk : Pl.lw n m = k) (hh : Hs w B' h1 h2 (Pl.bitsOf n m (2 ^ k)) os (Pl.hi l (2 ^ k) m)) (hf : Full w gl gls (max 1 k) m ws (fun i => l i % 2 ^ k))
    (hr : Pl.Rise n m l) (hn : n ≤ 4194304) (hm : 1 ≤ m) (hB : B ≤ B') (hB2 : B ≤ w.heap.size + 1) (hgl : B ≤ gl) (hgls : B ≤ gls) :
    St ((w.alloc (.cells #[.pointer (some ⟨h1, 0, none⟩), .pointer (some ⟨h2, 0, none⟩)] 48)).alloc (.cells #[.int .i64 (n : Int), .int .i64 (k : Int), .pointer (some ⟨h1, 0, none⟩), .pointer (some ⟨h2, 0, none⟩), .pointer (some ⟨gl, 0, none⟩)] 51))
      B (w.heap.size + 1) n m os ws l := by
  subst hk
  have e := lies_new (w.alloc (.cells #[.pointer (some ⟨h1, 0, none⟩), .pointer (some ⟨h2, 0, none⟩)] 48)) 51 [.int .i64 (n : Int), .int .i64 (Pl.lw n m : Int), .pointer (some ⟨h1, 0, none⟩), .pointer (some ⟨h2, 0, none⟩), .pointer (some ⟨gl, 0, none⟩)]
  rw [size_alloc] at e
  have hb2 := (below_box w (.cells #[.pointer (some ⟨h1, 0, none⟩), .pointer (some ⟨h2, 0, none⟩)] 48)).alloc (by rw [size_alloc]; omega) (.cells #[.int .i64 (n : Int), .int .i64 (Pl.lw n m : Int), .pointer (some ⟨h1, 0, none⟩), .pointer (some ⟨h2, 0, none⟩), .pointer (some ⟨gl, 0, none⟩)] 51)
  exact .inr ⟨⟨hr, hh.bits, hf.holds⟩, h1, h2, gl, gls, ⟨⟨e, (hh.keep hb2).down hB, hf.below hb2 hf.pk.head.lt hf.pk.body.lt, Pl.lw_le hn, hn, hB2, hgl, hgls⟩, hr, hm⟩⟩

set_option maxRecDepth 100000 in
set_option maxHeartbeats 3200000 in
theorem snew_any (n m : Nat) (A : Option Addr) (c : Nat) (l : Nat → Nat) (w : World) (hn : n ≤ 4194304) (hm : 1 ≤ m) (hm2 : n + m ≤ 4194304) (ho : Nts w w.heap.size A m l) (hr : Pl.Rise n m l) :
    Calls Try.prog 9 #[.int .i64 (n : Int), .slice A m c] w (NewSt w n m l) := by
  have hmn := hr.few
  have HR : ∀ W, Nts W w.heap.size A m l → Hid (Calls Try.prog 22 #[.int .i64 (n : Int), .slice A m c] W fun e w' => e = .returned (.bool true) ∧ W = w') := fun W hW => by
    have e := rise_any (n : Int) A m c (fun i => ((l i : Nat) : Int)) w.heap.size W (by omega) (hW.its fun i hi => by have := hr.below i hi; omega)
    rw [riseB_of hr fun _ _ => rfl] at e
    exact Lib.hid e
  have HM := fun W => Lib.hid (mayBound_any (n : Int) W)
  have e1 : bndB (n : Int) = true := by unfold bndB; simp; omega
  rw [e1] at HM
  obtain ⟨k, hk⟩ : ∃ k, Pl.lw n m = k := ⟨_, rfl⟩
  have hk22 : k ≤ 22 := by rw [← hk]; exact Pl.lw_le hn
  have HW := fun W => Lib.hid (lowWidth_any n m hn hm (by omega) W)
  rw [hk] at HW
  have HC := fun W => Lib.hid (highCount_any n m k hn (by omega) (by omega) hk22 W)
  obtain ⟨C, hC⟩ : ∃ C, Pl.bitsOf n m (2 ^ k) = C := ⟨_, rfl⟩
  have hC2 : C ≤ 4194304 := by
    rw [← hC]
    have : (n - 1) / 2 ^ k ≤ n - 1 := Nat.div_le_self _ _
    unfold Pl.bitsOf
    omega
  rw [hC] at HC
  obtain ⟨L, hL⟩ : ∃ L, (C + 63) / 64 = L := ⟨_, rfl⟩
  have HWo : ∀ W, Hid (Calls Try.prog 25 #[.int .i64 (C : Int)] W fun e w' => e = .returned (.int .i64 (L : Int)) ∧ W = w') := fun W => by
    rw [← hL]; exact Lib.hid (swordsOf_any C (by omega) W)
  have hLs : L ≤ 65536 := by omega
  have HMk := Lib.hid (fun W => make_words L (by omega) W)
  obtain ⟨Wd, hWd⟩ : ∃ Wd, max 1 k = Wd := ⟨_, rfl⟩
  have eM : max (1 : Int) (k : Int) = (Wd : Int) := by omega
  have HN := fun W => Lib.hid (new_full Wd m (by omega) (by omega) (by omega) W)
  have hPW : 2 ^ k ≤ 2 ^ Wd := Nat.pow_le_pow_right (by decide) (by omega)
  have hC64 : C ≤ 64 * L := by omega
  have HK := Lib.hid hk
  have HCC := Lib.hid hC
  have HLL := Lib.hid hL
  have HWW := Lib.hid hWd
  have HRi := Lib.hid hr
  have HO := Lib.hid ho
  have hmz : ((m : Int) == 0) = false := by rw [beq_eq_false_iff_ne]; omega
  clear e1 hk hC hL hWd hr ho
  go_enter Try.func9, Try.ntmps9
  go_wp2_with fail
  with_reducible refine (HM _).out.mono ?_
  rintro e w' ⟨rfl, rfl⟩
  go_wp2_with fail
  with_reducible refine (HR _ HO.out).out.mono ?_
  rintro e w' ⟨rfl, rfl⟩
  go_wp2_with fail
  with_reducible refine (HW _).out.mono ?_
  rintro e w' ⟨rfl, rfl⟩
  go_wp2_with fail
  with_reducible refine (HC _).out.mono ?_
  rintro e w' ⟨rfl, rfl⟩
  have hmk := HMk.out w
  go_wp2_with fail
  with_reducible refine (HWo _).out.mono ?_
  rintro e w' ⟨rfl, rfl⟩
  have hlw := lies_new w 43 (wcells (List.replicate L 0))
  have hbw := below_box w (.cells (wcells (List.replicate L 0)).toArray 43)
  go_wp2_with fail
  with_reducible refine (HN _).out.mono ?_
  rintro e w1 ⟨gl, gls, rfl, hgl, hgls, hb1, ws1, hf1⟩
  have hlw1 := hlw.below hb1 (by simp)
  have hB1 := hbw.trans (hb1.mono hbw.size)
  rw [size_alloc] at hgl hgls
  clear hlw hbw hb1 hmk
  go_wp2_with fail
  go_loopw [53] (fun v wr => ∃ (i : Nat) (os : List Nat) (x : Nat → Nat) (ws : List Nat), i ≤ m ∧ v = .int .i64 (i : Int) ∧ Hid (Lies wr w.heap.size 43 (wcells os)) ∧ Hid (Put l (2 ^ k) i L os) ∧ Hid (Full wr gl gls Wd m ws x) ∧ Hid (∀ t, t < i → x t = l t % 2 ^ k) ∧ Below w.heap.size w wr) (fun v _ => m - (intOf v).toNat)
  case atStart => exact ⟨0, _, _, _, Nat.zero_le _, rfl, Lib.hid hlw1, Lib.hid (put_zero l (2 ^ k) L), Lib.hid hf1, Lib.hid (fun t ht => absurd ht (Nat.not_lt_zero _)), hB1⟩
  case round =>
    clear hlw1 hf1 hB1
    obtain ⟨i, os, x, ws, hi, rfl, HL, HP, HF, HX, hBw⟩ := hrel
    by_cases hlt : i < m
    · obtain ⟨ad, rfl, had, hV⟩ := (HO.out.below hBw) i hlt
      have hbel := HRi.out.below i hlt
      have hpos := HRi.out.pos_lt (P := 2 ^ k) hlt
      rw [HCC.out] at hpos
      obtain ⟨y, hy⟩ : ∃ y, l i = y := ⟨_, rfl⟩
      obtain ⟨qx, hqx⟩ : ∃ qx, y / 2 ^ k = qx := ⟨_, rfl⟩
      obtain ⟨rx, hrx⟩ : ∃ rx, y % 2 ^ k = rx := ⟨_, rfl⟩
      have hrP : rx < 2 ^ Wd := by rw [← hrx]; exact Nat.lt_of_lt_of_le (Nat.mod_lt _ (Nat.two_pow_pos k)) hPW
      rw [hy] at hV hpos hbel
      rw [hqx] at hpos
      have eq1 : (y : Int) / 2 ^ k = (qx : Int) := by rw [shr_u, hqx]
      have hqy : qx ≤ y := by rw [← hqx]; exact Nat.div_le_self _ _
      have HPn : Hid (Put l (2 ^ k) (i + 1) L (setb os (qx + i))) := Lib.hid (HP.out.next (by rw [hy, hqx]) (by omega))
      have hsb := setBit_any os w.heap.size L (qx + i) wr HL.out HP.out.small (by rw [HP.out.len]; omega) (by rw [HP.out.len]; omega)
      rw [HP.out.len, Int.natCast_add] at hsb
      have HSb := Lib.hid hsb
      have hlb := fun W => lowBits_any y k (by omega) hk22 W
      rw [hrx] at hlb
      have HLb := fun W => Lib.hid (hlb W)
      have HRX : Hid (rx = l i % 2 ^ k) := Lib.hid (by rw [hy, hrx])
      have hy2 : y ≤ 4194304 := by omega
      clear hy hqx hrx hsb hlb hbel
      go_wp2_with fail
      with_reducible refine HSb.out.mono ?_
      rintro e w2 ⟨rfl, hl2, hg2⟩
      have HF2 := Lib.hid (HF.out.grown hg2 (by intro e; injection e; omega) (by intro e; injection e; omega))
      have HL2 := Lib.hid hl2
      have hBw2 := hBw.trans (below_of_grownBy hg2 (Nat.le_refl _) hBw.size)
      have HSe := Lib.hid (HF2.out.set_ i rx hlt hrP)
      clear hl2 hg2 HSb
      go_wp2_with fail
      with_reducible refine (HLb _).out.mono ?_
      rintro e w' ⟨rfl, rfl⟩
      go_wp2_with fail
      with_reducible refine HSe.out.mono ?_
      rintro e w4 ⟨rfl, ws4, hf4, hg4⟩
      have HF4 := Lib.hid hf4
      have HL4 := Lib.hid (HL2.out.grown hg4 (by intro e; injection e; omega))
      have hBw4 := hBw2.trans (below_of_grownBy hg4 (by omega) hBw2.size)
      have HX4 : Hid (∀ t, t < i + 1 → (if t = i then rx else x t) = l t % 2 ^ k) := Lib.hid fun t ht => by
        by_cases e : t = i
        · rw [if_pos e, e]; exact HRX.out
        · rw [if_neg e]; exact HX.out t (by omega)
      clear hf4 hg4
      go_wp2_with fail
      go_roundw
      case rel => exact ⟨i + 1, _, _, ws4, by omega, by go_num, HL4, HPn, HF4, HX4, hBw4⟩
      case measure => simp [intOf]; omega
    · have him : i = m := by omega
      rw [him] at HP HX
      have hbits : Bits os C (Pl.hi l (2 ^ k) m) := by
        rw [← HCC.out]
        exact Put.all (by rw [HCC.out, HLL.out]; exact HP.out) HRi.out (by rw [HCC.out]; exact hC2)
      have hfin := highsOf_any C L (some ⟨w.heap.size, 0, none⟩) os hC2 wr (Rd.of_src (Src.of_lies HL.out)) (fun e => by cases e) (by rw [HP.out.len]; exact Nat.le_refl _) hbits.small hbits.just
      rw [HP.out.len] at hfin
      have HFin := Lib.hid hfin
      have HBi := Lib.hid hbits
      clear hfin hbits
      go_wp2_with fail
      with_reducible refine HFin.out.mono ?_
      rintro e w5 ⟨h1, h2, rfl, hh5, hb5⟩
      unfold hv
      go_wp2_with fail
      go_ret2
      have hF5 := (HF.out.below hb5 HF.out.pk.head.lt HF.out.pk.body.lt).agree HX.out
      have hbb : Below w.heap.size w w5 := hBw.trans (hb5.mono hBw.size)
      have hfit := HBi.out
      have hhi := hh5.agree (f' := Pl.hi l (2 ^ k) m) fun j hj => HBi.out.same j hj
      refine ⟨w5.heap.size + 1, os, ws, rfl, spl_made (HK.out) (by rw [HCC.out]; exact hhi) (by rw [HWW.out]; exact hF5) HRi.out hn hm hBw.size (by have := hbb.size; omega) (by omega) (by omega), (hbb.alloc hbb.size _).alloc (by rw [size_alloc]; have := hbb.size; omega) _⟩
end Go.Proofs.Ytmcoehimjfgakaa
