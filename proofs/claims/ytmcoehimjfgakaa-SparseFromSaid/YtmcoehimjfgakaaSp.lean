/- A sparse list as it lies in memory; contracts of its methods. -/
import Derived.Test.YtmcoehimjfgakaaHighsWords
namespace Go.Proofs.Ytmcoehimjfgakaa
open Go.RowKit

/-- a sparse list with places, as it lies: its bound, its low width k, c high bits f, m low numbers x. -/
structure Raw (w : World) (B g h1 h2 gl gls n k m c : Nat) (hs ls : List Nat) (f : Nat → Bool) (x : Nat → Nat) : Prop where
  head : Lies w g 51 [.int .i64 (n : Int), .int .i64 (k : Int), .pointer (some ⟨h1, 0, none⟩), .pointer (some ⟨h2, 0, none⟩), .pointer (some ⟨gl, 0, none⟩)]
  high : Hs w B h1 h2 c hs f
  low : Full w gl gls (max 1 k) m ls x
  width : k ≤ 22
  few : n ≤ 4194304
  lo : B ≤ g ∧ B ≤ gl ∧ B ≤ gls

section
variable {w w' : World} {B g h1 h2 gl gls n k m c : Nat} {hs ls : List Nat} {f : Nat → Bool} {x : Nat → Nat}
theorem Raw.keep (h : Raw w B g h1 h2 gl gls n k m c hs ls f x) (hb : Below w.heap.size w w') : Raw w' B g h1 h2 gl gls n k m c hs ls f x :=
  ⟨h.head.below hb h.head.lt, h.high.keep hb, h.low.below hb h.low.pk.head.lt h.low.pk.body.lt, h.width, h.few, h.lo⟩
theorem Raw.old {q : Nat} (h : Raw w B g h1 h2 gl gls n k m c hs ls f x) (hb : w.grownBy w' (some q)) (hq : q < B) : Raw w' B g h1 h2 gl gls n k m c hs ls f x :=
  ⟨h.head.grown hb (by have := h.lo.1; intro e; injection e; omega), h.high.old hb hq, h.low.grown hb (by have := h.lo.2.1; intro e; injection e; omega) (by have := h.lo.2.2; intro e; injection e; omega), h.width, h.few, h.lo⟩
theorem Raw.drewN (h : Raw w B g h1 h2 gl gls n k m c hs ls f x) (q : Nat) : Raw (w.drewN q) B g h1 h2 gl gls n k m c hs ls f x :=
  ⟨h.head, h.high.drewN q, h.low.drewN q, h.width, h.few, h.lo⟩

theorem or_i64 (a b : Nat) (ha : a < 2 ^ 62) (hb : b < 2 ^ 62) : bits .or .i64 (a : Int) (b : Int) = ((a ||| b : Nat) : Int) := by
  have hx : a ||| b < 2 ^ 62 := Nat.or_lt_two_pow (by omega) (by omega)
  show IntKind.i64.wrap ((BitVec.ofInt 64 (a : Int) ||| BitVec.ofInt 64 (b : Int)).toNat : Int) = _
  rw [BitVec.toNat_or, ofInt_u64 a (by omega), ofInt_u64 b (by omega)]
  exact IntWalk.i64_in _ (by omega)
theorem place_num {a y k : Nat} (hk : k ≤ 22) (ha : a ≤ 16777216) (hy : y < 2 ^ k) : bits .or .i64 (wrap64 ((a : Int) * 2 ^ k)) (wrap64 (y : Int)) = ((a * 2 ^ k + y : Nat) : Int) := by
  have hP := pow_le_22 hk
  have e : (2 : Int) ^ k = ((2 ^ k : Nat) : Int) := by simp [Int.natCast_pow]
  have hor : a * 2 ^ k + y = a * 2 ^ k ||| y := by rw [Nat.mul_comm]; exact Nat.two_pow_add_eq_or_of_lt hy a
  rw [e, hor]
  generalize 2 ^ k = P at hP hy
  have hm : a * P ≤ 16777216 * 4194304 := Nat.mul_le_mul ha hP
  rw [← Int.natCast_mul]
  generalize a * P = z at hm
  rw [show wrap64 (z : Int) = (z : Int) by unfold wrap64; omega, show wrap64 (y : Int) = (y : Int) by unfold wrap64; omega, or_i64 z y (by omega) (by omega)]

set_option maxRecDepth 100000 in
set_option maxHeartbeats 1600000 in
theorem place_raw (h : Raw w B g h1 h2 gl gls n k m c hs ls f x) (i b : Nat) (hi : i < m) (hib : i ≤ b) (hb : b ≤ 16777216) (hx : x i < 2 ^ k) :
    Calls Try.prog 36 #[.pointer (some ⟨g, 0, none⟩), .int .i64 (i : Int), .int .i64 (b : Int)] w fun e w' => e = .returned (.int .i64 (((b - i) * 2 ^ k + x i : Nat) : Int)) ∧ Below w.heap.size w w' := by
  have hd1 := h.head.cell 1
  have hd4 := h.head.cell 4
  have hk := h.width
  have HG : ∀ q, Hid (Calls Try.prog 35 #[.pointer (some ⟨gl, 0, none⟩), .int .i64 (i : Int)] (w.drewN q) fun e w' => e = .returned (.int .u64 ((x i : Nat) : Int)) ∧ w.drewN q = w') := fun q => Lib.hid ((h.low.drewN q).get i hi)
  clear h
  generalize x i = y at hx HG ⊢
  go_enter Try.func36, Try.ntmps36
  go_wp2_with fail
  go_quiet ((go_at_call 35; with_reducible exact quiet_keep (HG _).out))
  go_wp2_with fail
  go_ret
  have e1 : (b : Int) - (i : Int) = ((b - i : Nat) : Int) := by omega
  exact ⟨ret_i64 (by rw [e1]; exact place_num hk (by omega) hx), below_drewN' (Below.refl _ _) _⟩

/-- the place ahead of number i. -/
def lastN (y : Nat → Nat) : Nat → Int
  | 0 => -1
  | i + 1 => (y i : Int)
theorem good_of {n m P : Nat} {y x : Nat → Nat} (h : ∀ j, j < m → x j < P ∧ y j < n ∧ lastN y j < (y j : Int)) : Pl.Good n m P y x :=
  ⟨fun j hj => (h j hj).1, ⟨fun j hj => (h j hj).2.1, fun j hj => by have := (h (j + 1) hj).2.2; simp only [lastN] at this; omega⟩⟩
theorem good_last {n m P : Nat} {y x : Nat → Nat} (h : Pl.Good n m P y x) {j : Nat} (hj : j < m) : lastN y j < (y j : Int) := by
  cases j with
  | zero => simp only [lastN]; omega
  | succ j => have := h.rise.up j hj; simp only [lastN]; omega

/-- what formed leaves. -/
def Formed (w : World) (good : Prop) (e : Ending) (w' : World) : Prop := ∃ v : Bool, e = .returned (.bool v) ∧ (v = true ↔ good) ∧ Below w.heap.size w w'

set_option maxRecDepth 100000 in
set_option maxHeartbeats 3200000 in
theorem formed_raw (h : Raw w B g h1 h2 gl gls n k m c hs ls f x) (hm : Pl.cnt f c = m) :
    Calls Try.prog 45 #[.pointer (some ⟨g, 0, none⟩)] w (Formed w (Pl.Good n m (2 ^ k) (Pl.place f c (2 ^ k) x) x)) := by
  have hk := h.width
  have hc := h.high.few
  have hn := h.few
  have hmc : m ≤ c := by rw [← hm]; exact Pl.cnt_le _ _
  have H := Lib.hid h
  have HM := Lib.hid hm
  have hd2 := h.head.cell 2
  have hd3 := h.head.cell 3
  have HLen := Lib.hid (hlen_any h.high)
  unfold hv at HLen
  clear h hm
  obtain ⟨y, hy⟩ : ∃ y, Pl.place f c (2 ^ k) x = y := ⟨_, rfl⟩
  rw [hy]
  have HY := Lib.hid hy
  clear hy
  go_enter Try.func45, Try.ntmps45
  go_wp2_with fail
  with_reducible refine HLen.out.mono ?_
  rintro e w1 ⟨rfl, hb1⟩
  clear hd2 hd3 HLen
  go_wp2_with fail
  go_loopw [3, 4, 12] (fun u i v wr => ∃ b : Nat, b ≤ c ∧ v = .int .i64 (b : Int) ∧ i = .int .i64 ((Pl.cnt f b : Nat) : Int) ∧ u = .int .i64 (lastN y (Pl.cnt f b)) ∧ Hid (∀ j, j < Pl.cnt f b → x j < 2 ^ k ∧ y j < n ∧ lastN y j < (y j : Int)) ∧ Below w.heap.size w wr) (fun _ _ v _ => c - (intOf v).toNat)
  case atStart => exact ⟨0, Nat.zero_le _, rfl, rfl, rfl, Lib.hid (fun j hj => absurd hj (by simp [Pl.cnt])), hb1⟩
  case round =>
    clear hb1
    obtain ⟨b, hb, rfl, rfl, rfl, HG, hBw⟩ := hrel
    have HR := Lib.hid (H.out.keep hBw)
    have hcs := Pl.cnt_succ f b
    have hcl := Pl.cnt_le f b
    obtain ⟨i, hi⟩ : ∃ i, Pl.cnt f b = i := ⟨_, rfl⟩
    by_cases hlt : b < c
    · have hd2 := HR.out.head.cell 2
      have hd3 := HR.out.head.cell 3
      have HA := Lib.hid (hat_any HR.out.high b hlt)
      unfold hv at HA
      have HIl : f b = true → i < m := fun hf => by rw [← hi, ← HM.out]; exact Pl.cnt_at_lt hlt hf
      have HIp : f b = true → y i = (b - i) * 2 ^ k + x i := fun hf => by rw [← hi, ← HY.out]; exact Pl.place_at hlt hf
      obtain ⟨fb, hfb⟩ : ∃ fb, f b = fb := ⟨_, rfl⟩
      rw [hfb] at HA HIl HIp hcs
      rw [hi] at hcs hcl HG ⊢
      have HCs := Lib.hid hcs
      have HI := Lib.hid hi
      have HIl := Lib.hid HIl
      have HIp := Lib.hid HIp
      clear hfb hcs hi
      go_wp2_with fail
      with_reducible refine HA.out.mono ?_
      rintro e w2 ⟨rfl, hb2⟩
      have hBw2 := hBw.trans (hb2.mono hBw.size)
      have HR2 := Lib.hid (HR.out.keep hb2)
      clear hd2 hd3 HA HR
      cases fb with
      | false =>
        go_wp2_with fail
        go_roundw
        case rel =>
          have e : Pl.cnt f (b + 1) = i := by rw [HCs.out]; simp
          exact ⟨b + 1, by omega, by go_num, by rw [e], by rw [e], by rw [e]; exact HG, hBw2⟩
        case measure => simp [intOf]; omega
      | true =>
        have him := HIl.out rfl
        have hd1 := HR2.out.head.cell 1
        have hd4 := HR2.out.head.cell 4
        have HGet : ∀ q, Hid (Calls Try.prog 35 #[.pointer (some ⟨gl, 0, none⟩), .int .i64 (i : Int)] (w2.drewN q) fun e w' => e = .returned (.int .u64 ((x i : Nat) : Int)) ∧ w2.drewN q = w') := fun q => Lib.hid ((HR2.out.low.drewN q).get i him)
        have HPl : ∀ q, x i < 2 ^ k → Hid (Calls Try.prog 36 #[.pointer (some ⟨g, 0, none⟩), .int .i64 (i : Int), .int .i64 (b : Int)] (w2.drewN q) fun e w' => e = .returned (.int .i64 ((y i : Nat) : Int)) ∧ Below (w2.drewN q).heap.size (w2.drewN q) w') := fun q hx => by
          rw [HIp.out rfl]
          exact Lib.hid (place_raw (HR2.out.drewN q) i b him hcl (by omega) hx)
        by_cases hx : x i < 2 ^ k
        · have hPl := fun q => HPl q hx
          have ez : ((x i : Nat) : Int) / 2 ^ k = 0 := by rw [shr_u, Nat.div_eq_of_lt hx]; rfl
          have HX := Lib.hid hx
          have HLn : Hid (lastN y (i + 1) = ((y i : Nat) : Int)) := Lib.hid rfl
          have HGd : Hid (Pl.Good n m (2 ^ k) y x → lastN y i < ((y i : Nat) : Int) ∧ y i < n) := Lib.hid fun g => ⟨good_last g him, g.rise.below i him⟩
          have HAll : Hid (lastN y i < ((y i : Nat) : Int) → y i < n → ∀ j, j < i + 1 → x j < 2 ^ k ∧ y j < n ∧ lastN y j < (y j : Int)) := Lib.hid fun a1 a2 j hj => by
            by_cases e : j = i
            · subst e; exact ⟨HX.out, a2, a1⟩
            · exact HG.out j (by omega)
          have HC1 : Hid (Pl.cnt f (b + 1) = i + 1) := Lib.hid (by rw [HCs.out]; simp)
          have hl0 : -1 ≤ lastN y i := by cases i <;> simp only [lastN] <;> omega
          generalize x i = z at HGet ez HX
          generalize lastN y i = u0 at HGd HAll hl0 ⊢
          clear HPl hx HG HCs HIp HIl
          generalize y i = t at hPl HLn HGd HAll
          go_wp2_with fail
          go_quiet ((go_at_call 35; with_reducible exact quiet_keep (HGet _).out))
          go_wp2_with fail
          with_reducible refine (hPl _).out.mono ?_
          rintro e w3 ⟨rfl, hb3⟩
          have hBw3 : Below w.heap.size w w3 := (below_drewN' hBw2 _).trans (hb3.mono (by have := hBw2.size; simpa using this))
          have hd0 : w3.cell? ⟨g, 0, none⟩ = some (.int .i64 (n : Int)) := ((HR2.out.drewN _).keep hb3).head.cell 0
          clear hd1 hd4 hPl HGet
          by_cases h1 : u0 < (t : Int)
          · by_cases h2 : t < n
            · have HA2 := Lib.hid (HAll.out h1 h2)
              clear HAll HGd
              go_wp2_with fail
              go_roundw
              case rel => exact ⟨b + 1, by omega, by go_num, by rw [HC1.out]; go_num, by rw [HC1.out, HLn.out], by rw [HC1.out]; exact HA2, hBw3⟩
              case measure => simp [intOf]; omega
            · have HF : Hid (¬ Pl.Good n m (2 ^ k) y x) := Lib.hid fun g => h2 (HGd.out g).2
              clear HAll HGd
              go_wp2_with fail
              go_ret
              exact ⟨false, rfl, ⟨fun e => by (cases e), fun g => absurd g HF.out⟩, hBw3⟩
          · have HF : Hid (¬ Pl.Good n m (2 ^ k) y x) := Lib.hid fun g => h1 (HGd.out g).1
            clear HAll HGd
            go_wp2_with fail
            go_ret
            exact ⟨false, rfl, ⟨fun e => by (cases e), fun g => absurd g HF.out⟩, hBw3⟩
        · have HF : Hid (¬ Pl.Good n m (2 ^ k) y x) := Lib.hid fun g => hx (g.low i him)
          have hz : x i / 2 ^ k ≠ 0 := by
            intro e
            rw [Nat.div_eq_zero_iff] at e
            have := Nat.two_pow_pos k
            omega
          have ez1 : (((x i : Nat) : Int) / 2 ^ k == 0) = false := by rw [beq_eq_false_iff_ne, shr_u]; omega
          have ez2 : (((x i : Nat) : Int) / 2 ^ k != 0) = true := by rw [bne, ez1]; rfl
          generalize x i = z at HGet ez1 ez2
          clear HPl hx hz HG HCs HIp HIl
          go_wp2_with fail
          go_quiet ((go_at_call 35; with_reducible exact quiet_keep (HGet _).out))
          go_wp2_with fail
          go_ret
          exact ⟨false, rfl, ⟨fun e => by (cases e), fun g => absurd g HF.out⟩, below_drewN' hBw2 _⟩
    · obtain rfl : b = c := by omega
      have hG : Pl.Good n m (2 ^ k) y x := good_of (by rw [← HM.out]; exact HG.out)
      have HGG := Lib.hid hG
      clear hG hcs hi
      go_wp2_with fail
      go_ret
      exact ⟨true, rfl, ⟨fun _ => HGG.out, fun _ => rfl⟩, hBw⟩
end
end Go.Proofs.Ytmcoehimjfgakaa
