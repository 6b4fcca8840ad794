/- The document's levels of a row: by putting the numbers in order by one bit after the other. -/
import Derived.Test.YtfhflmojcfnhnaaWavRef
import Derived.Test.YtfhflmojcfnhnaaWavNar
import Derived.Test.YtfhflmojcfnhnaaOwnParts
import Derived.Test.YtfhflmojcfnhnaaIntApp
namespace Go.Proofs.Ytfhflmojcfnhnaa
open Go.RowKit

theorem ofInt_n (x : Nat) (h : x < 2 ^ 64) : (BitVec.ofInt 64 (x : Int)).toNat = x := by
  rw [BitVec.toNat_ofInt]
  omega
theorem bit_low {x : Int} {b : Nat} (h0 : 0 ≤ x) (h1 : x ≤ 4194304) (_ : b ≤ 64) : bits .and .i64 (x / 2 ^ b) 1 % 256 = ((bitN x b : Nat) : Int) := by
  obtain ⟨y, rfl⟩ : ∃ y : Nat, x = (y : Int) := ⟨x.toNat, by omega⟩
  rw [bitN_int]
  unfold bitZ
  rw [shr_u]
  have hy : y / 2 ^ b ≤ 4194304 := Nat.le_trans (Nat.div_le_self _ _) (by omega)
  generalize y / 2 ^ b = u at hy
  have e : bits .and .i64 (u : Int) 1 = ((u % 2 : Nat) : Int) := by
    show IntKind.i64.wrap ((BitVec.ofInt 64 (u : Int) &&& BitVec.ofInt 64 ((1 : Nat) : Int)).toNat : Int) = _
    rw [BitVec.toNat_and, ofInt_n u (by omega), ofInt_n 1 (by omega), Nat.and_one_is_mod]
    exact IntWalk.i64_in _ (by omega)
  rw [e]
  omega
theorem icells_put1 (U : Nat → Int) (m : Nat) (x : Int) : icells (fun p => if p = m then x else U p) (m + 1) = icells U m ++ [.int .i64 x] := by
  rw [icells_snoc, if_pos rfl, icells_congr (U := fun p => if p = m then x else U p) (U' := U) (fun j hj => if_neg (by omega))]
/-- the first k levels, as slices of bytes of the call's own. -/
structure LevP (w : World) (B : Nat) (V : Nat → Int) (n W k : Nat) (L : List Part) : Prop where
  len : L.length = k
  own : ∀ (q : Nat) (p : Part), L[q]? = some p → OwnPart w B p
  bits : ∀ (q : Nat) (p : Part), L[q]? = some p → p.n = n ∧ ∀ i, i < n → p.V i = bitN (levRow V n W q i) (W - 1 - q)

theorem owns_low {w w' : World} {B n : Nat} {t : TypeId} {v : Value} {cs : List Value} (h : w.ownsRow B t 1 v n cs) (hb : Below w.heap.size w w') : w'.ownsRow B t 1 v n cs := by
  refine ⟨h.1, ?_⟩
  rcases h.2 with h0 | ⟨g, cap, cur, e, h1, h2, h3⟩
  · exact .inl h0
  · exact .inr ⟨g, cap, cur, e, h1, (hb.block g (Array.getElem?_eq_some_iff.1 h2).1).trans h2, h3⟩
theorem LevP.below {w w' : World} {B : Nat} {V : Nat → Int} {n W k : Nat} {L : List Part} (h : LevP w B V n W k L) (hb : Below w.heap.size w w') : LevP w' B V n W k L := ⟨h.len, fun q p hq => (h.own q p hq).below hb, h.bits⟩
theorem LevP.push {w w' : World} {B i : Nat} {V : Nat → Int} {n W k : Nat} {L : List Part} {v : Value} {cs : List Value} (h : LevP w B V n W k L) (hv : w.ownsRow B 34 1 v i cs) (hg : w.grownBy w' v.ownBlock) {p : Part} (hp : OwnPart w B p) (hb : p.n = n ∧ ∀ i, i < n → p.V i = bitN (levRow V n W k i) (W - 1 - k)) : LevP w' B V n W (k + 1) (L ++ [p]) := by
  have hsn : ∀ (q : Nat) (x : Part), (L ++ [p])[q]? = some x → (q < k ∧ L[q]? = some x) ∨ (q = k ∧ x = p) := fun q x hx => by
    by_cases e : q < k
    · rw [List.getElem?_append_left (by rw [h.len]; exact e)] at hx
      exact .inl ⟨e, hx⟩
    · have hl := (List.getElem?_eq_some_iff.1 hx).1
      rw [List.length_append, h.len] at hl
      have hq : q = k := by
        have : ([p] : List Part).length = 1 := rfl
        omega
      subst hq
      rw [List.getElem?_append_right (by rw [h.len]; omega), h.len, Nat.sub_self] at hx
      cases hx
      exact .inr ⟨rfl, rfl⟩
  refine ⟨by rw [List.length_append, h.len]; rfl, fun q x hq => ?_, fun q x hq => ?_⟩
  · rcases hsn q x hq with ⟨_, g⟩ | ⟨_, rfl⟩
    · exact (h.own q x g).grown hv hg
    · exact hp.grown hv hg
  · rcases hsn q x hq with ⟨_, g⟩ | ⟨rfl, rfl⟩
    · exact h.bits q x g
    · exact hb

set_option maxRecDepth 100000 in
set_option maxHeartbeats 6400000 in
theorem refLevels_any (A : Option Addr) (n c m : Nat) (V : Nat → Int) (w : World) (hn : n ≤ 4000) (hm : m ≤ 4194304) (hV : ∀ i, i < n → 0 ≤ V i ∧ V i ≤ 4194304) (ho : ItsR w A n c V) :
    Calls Try.prog 13 #[.slice A n c, .int .i64 (m : Int)] w fun e w' => ∃ (u : Value) (L : List Part), e = .returned u ∧ w'.ownsRow w.heap.size 34 1 u (widthN m) (pcells L) ∧ LevP w' w.heap.size V n (widthN m) (widthN m) L ∧ Below w.heap.size w w' := by
  have HO := Lib.hid ho
  have HWd := Lib.hid (refWidth_any m w hm)
  have hW1 := widthN_pos m
  have hW2 : widthN m ≤ 23 := widthN_pow 23 m (by omega) (by decide)
  obtain ⟨W, hW⟩ : ∃ W, widthN m = W := ⟨_, rfl⟩
  rw [hW] at HWd hW1 hW2 ⊢
  have HV := Lib.hid hV
  clear ho hV hW
  have ew : IntKind.i64.wrap ((W : Int) - 1) = (W : Int) - 1 := IntWalk.i64_in _ (by omega)
  go_enter Try.func13, Try.ntmps13
  go_wp2_with fail
  refine HWd.out.mono ?_
  rintro e w0 ⟨rfl, rfl⟩
  go_wp2_with fail
  go_loopw [5, 6, 7] (fun s t u wr => ∃ (k : Nat) (z : Int) (L : List Part) (AR : Option Addr) (cR : Nat), k ≤ W ∧ z + (k : Int) + 1 = (W : Int) ∧ u = .int .i64 z ∧ t = .slice AR n cR ∧ Hid (ItsR wr AR n cR (levRow V n W k)) ∧ Hid (wr.ownsRow w.heap.size 34 1 s k (pcells L)) ∧ Hid (LevP wr w.heap.size V n W k L) ∧ Hid (Below w.heap.size w wr)) (fun _ _ u _ => (intOf u + 1).toNat)
  case atStart => exact ⟨0, (W : Int) - 1, [], A, c, Nat.zero_le _, by omega, rfl, rfl, HO, Lib.hid (World.ownsRow_nil w _ _ _), Lib.hid ⟨rfl, fun q p hq => (by cases hq), fun q p hq => (by cases hq)⟩, Lib.hid (Below.refl _ _)⟩
  case round =>
    obtain ⟨k, z, L, AR, cR, hk, hz, rfl, rfl, hR, hrow, hL, hB⟩ := hrel
    rename World => wl
    by_cases hlt : k < W
    · obtain ⟨b, rfl⟩ : ∃ b : Nat, z = (b : Int) := ⟨z.toNat, by omega⟩
      have hb : b = W - 1 - k := by omega
      have g0 : decide ((0 : Int) ≤ (b : Int)) = true := decide_eq_true (by omega)
      have hbu : IntKind.u64.wrap (b : Int) = (b : Int) := IntWalk.u64_in _ (by omega)
      have HRV := Lib.hid (levRow_room (V := V) (n := n) (W := W) (lo := 0) (hi := 4194304) HV.out k)
      have Hb := Lib.hid hb
      clear hb hz
      obtain ⟨T, hT⟩ : ∃ T, wl.heap.size = T := ⟨_, rfl⟩
      have hBT : w.heap.size ≤ T := by rw [← hT]; exact hB.out.size
      have HT := Lib.hid hT
      have h0 : Hid (wl.ownsRow T 5 1 (.slice none 0 0) 0 (ycells (fun i => bitN (levRow V n W k i) b) 0)) := Lib.hid (by rw [← hT]; exact World.ownsRow_nil wl _ _ _)
      have h1 : Hid (Below T wl wl) := Lib.hid (Below.refl _ _)
      clear hT
      go_wp2_with fail
      go_loopw [8, 25] (fun s t wx => ∃ i : Nat, i ≤ n ∧ t = .int .i64 (i : Int) ∧ Hid (wx.ownsRow T 5 1 s i (ycells (fun i => bitN (levRow V n W k i) b) i)) ∧ Hid (Below T wl wx)) (fun _ t _ => n - (intOf t).toNat)
      case atStart => exact ⟨0, Nat.zero_le _, rfl, h0, h1⟩
      case round =>
        clear h0 h1
        obtain ⟨i, hi, rfl, hbits, hx⟩ := hrel
        by_cases hlti : i < n
        · have hltz : (i : Int) < (n : Int) := by omega
          obtain ⟨ad, rfl, _, cx, _⟩ := hR.out.2.2.2.below (hx.out.mono (Nat.le_of_eq HT.out)) i hlti
          have hrv := HRV.out i hlti
          have hb22 : b ≤ 64 := by have := Hb.out; omega
          have HXi := Lib.hid (bit_low hrv.1 hrv.2 hb22)
          have hi4 : i ≤ 4194304 := by omega
          have hxs := hx.out.size
          rename World => wx
          have hTs : T ≤ wx.heap.size := by have := HT.out; omega
          clear hrv
          go_wp2_with (at_builtin; refine step_append_byte rfl (.tmp 29) (.tmp 36) rfl rfl hbits.out _ rfl hTs hi4 ?_; intro v4 w4 hown4 hb4)
          go_roundw
          case rel => exact ⟨i + 1, by omega, by go_num, Lib.hid (by
            rw [ycells_snoc, ← HXi.out]
            exact hown4.out), Lib.hid (hx.out.trans hb4)⟩
          case measure => simp [intOf]; omega
        · obtain rfl : i = n := by omega
          have hge : ¬ (i : Int) < (i : Int) := by omega
          obtain ⟨AB, cB, rfl, hcB, _, hOB⟩ := own_cut hbits.out (Nat.le_refl i) (fun q _ => by have := bitN_lt (levRow V i W k q) b; omega)
          have HOB := Lib.hid hOB
          have HxT := hx
          rename World => w1
          obtain ⟨T1, hT1⟩ : ∃ T1, w1.heap.size = T1 := ⟨_, rfl⟩
          have HT1 := Lib.hid hT1
          have hTT : T ≤ T1 := by have := hx.out.size; have := HT.out; omega
          have h2 : Hid (w1.ownsRow T1 3 1 (.slice none 0 0) 0 (icells (fun _ => 0) 0)) := Lib.hid (by rw [← hT1]; exact World.ownsRow_nil w1 _ _ _)
          have h3 : Hid (NxtIn (levRow V i W k) i b 0 0 0 (fun _ => 0)) := Lib.hid (NxtIn.start _ _ _ _)
          have h4 : Hid (Below T1 w1 w1) := Lib.hid (Below.refl _ _)
          clear hbits hx hOB hT1
          go_wp2_with fail
          go_loopw [9, 12] (fun s t wx => ∃ (q m' : Nat) (U : Nat → Int), q ≤ 2 ∧ m' ≤ 2 * i ∧ t = .int .u8 (q : Int) ∧ Hid (wx.ownsRow T1 3 1 s m' (icells U m')) ∧ Hid (NxtIn (levRow V i W k) i b (q : Int) 0 m' U) ∧ Hid (Below T1 w1 wx)) (fun _ t _ => 2 - (intOf t).toNat)
          case atStart => exact ⟨0, 0, fun _ => 0, by omega, by omega, rfl, h2, h3, h4⟩
          case round =>
            clear h2 h3 h4
            obtain ⟨q, m', U, hq, hm', rfl, hnx, hN, hB1⟩ := hrel
            by_cases hq2 : q < 2
            · have hq2i : (q : Int) < 2 := by omega
              have hqw : IntKind.u8.wrap ((q : Int) + 1) = (q : Int) + 1 := by
                have : q = 0 ∨ q = 1 := by omega
                rcases this with rfl | rfl <;> rfl
              have hqw2 : ((q : Int) + 1) % 256 = (q : Int) + 1 := by omega
              go_wp2_with fail
              rename World => wy
              go_loopw [9, 45] (fun s t wx => ∃ (j m' : Nat) (U : Nat → Int), j ≤ i ∧ m' ≤ 2 * i ∧ t = .int .i64 (j : Int) ∧ Hid (wx.ownsRow T1 3 1 s m' (icells U m')) ∧ Hid (NxtIn (levRow V i W k) i b (q : Int) j m' U) ∧ Hid (Below T1 w1 wx)) (fun _ t _ => i - (intOf t).toNat)
              case atStart => exact ⟨0, m', U, by omega, hm', rfl, hnx, hN, hB1⟩
              case round =>
                clear hnx hN hB1 hm'
                obtain ⟨j, m', U, hj, hm', rfl, hnx, hN, hB1⟩ := hrel
                by_cases hji : j < i
                · have hjii : (j : Int) < (i : Int) := by omega
                  obtain ⟨ad, hA, _, cx, _⟩ := (hR.out.2.2.2.below (HxT.out.mono (Nat.le_of_eq HT.out))).mono_ (B' := T1) (by have := HxT.out.size; have := HT1.out; omega) |>.below hB1.out j hji
                  subst hA
                  obtain ⟨adb, hAb0, _, cb0, _⟩ := (HOB.out.below (hB1.out.mono (Nat.le_of_eq HT1.out))).bys.2.2.2 j hji
                  have hAb : AB = some adb := hAb0
                  subst hAb
                  have cb : World.cell? _ (adb.add j) = some (.int .u8 ((bitN (levRow V i W k j) b : Nat) : Int)) := cb0
                  clear hAb0 cb0
                  have hxs := hB1.out.size
                  rename World => wz
                  have hTs : T1 ≤ wz.heap.size := by have := HT1.out; omega
                  have hm4 : m' ≤ 4194304 := by omega
                  obtain ⟨x, hx⟩ : ∃ x, levRow V i W k j = x := ⟨_, rfl⟩
                  rw [hx] at cx cb
                  obtain ⟨y, hy⟩ : ∃ y, bitN x b = y := ⟨_, rfl⟩
                  rw [hy] at cb
                  by_cases hyq : y = q
                  · have HN2 : Hid (NxtIn (levRow V i W k) i b (q : Int) (j + 1) (m' + 1) (fun p => if p = m' then x else U p)) := Lib.hid (hN.out.hit hji (by rw [hx, ← bitN_int, hy, hyq]) (fun p hp => if_neg hp) (by rw [if_pos rfl, hx]))
                    rw [hyq] at cb
                    have g1 : ((q : Int) == (q : Int)) = true := by simp
                    have hle := HN2.out.le (show j + 1 ≤ i by omega)
                    have hown := hnx
                    clear hx hy hN hnx hyq
                    go_wp2_with (at_builtin; refine step_append_int rfl (.tmp 56) (.tmp 58) rfl rfl hown.out _ rfl hTs hm4 ?_; intro v5 w5 hown5 hb5)
                    go_roundw
                    case rel => exact ⟨j + 1, m' + 1, _, by omega, hle, by go_num, Lib.hid (by
                      rw [icells_put1 U m' x]
                      exact hown5.out), HN2, Lib.hid (hB1.out.trans hb5)⟩
                    case measure => simp [intOf]; omega
                  · have HN2 : Hid (NxtIn (levRow V i W k) i b (q : Int) (j + 1) m' U) := Lib.hid (hN.out.miss (by rw [hx, ← bitN_int, hy]; omega))
                    have g1 : ((y : Int) == (q : Int)) = false := by rw [beq_eq_false_iff_ne]; omega
                    have g2 : ¬ (y : Int) = (q : Int) := by omega
                    have g3 : (y == q) = false := by rw [beq_eq_false_iff_ne]; exact hyq
                    clear hx hy hN
                    go_wp2_with fail
                    go_roundw
                    case rel => exact ⟨j + 1, m', U, by omega, hm', by go_num, hnx, HN2, hB1⟩
                    case measure => simp [intOf]; omega
                · have hjj : j = i := by omega
                  have hge2 : ¬ (j : Int) < (i : Int) := by omega
                  rw [hjj] at hN
                  have HN2 := Lib.hid hN.out.next
                  clear hjj hN
                  go_wp2_with fail
                  go_roundw
                  case rel => exact ⟨q + 1, m', U, by omega, hm', by go_num, hnx, by
                    rw [show ((q + 1 : Nat) : Int) = (q : Int) + 1 by omega]
                    exact HN2, hB1⟩
                  case measure => simp [intOf]; omega
            · obtain rfl : q = 2 := by omega
              have hge3 : ¬ ((2 : Nat) : Int) < 2 := by omega
              have hN2 : NxtIn (levRow V i W k) i b 2 0 m' U := hN.out
              obtain ⟨hmi, hU⟩ := hN2.done
              subst hmi
              have hW1 : Below wl.heap.size wl w1 := HxT.out.mono (Nat.le_of_eq HT.out)
              have hB1' : Below w1.heap.size w1 _ := hB1.out.mono (Nat.le_of_eq HT1.out)
              have hWx := hW1.trans (hB1'.mono hW1.size)
              have hnx2 := hnx.out
              rw [icells_congr (U := U) (U' := levRow V m' W (k + 1)) (fun p hp => by
                rw [hU p hp, Hb.out]
                rfl)] at hnx2
              have hlt2 := hnx2.lt
              obtain ⟨A2, c2, hs9, hR2⟩ := ItsR.of_own hnx2 (fun p hp => by
                have := levRow_room (V := V) (n := m') (W := W) (lo := 0) (hi := 4194304) HV.out (k + 1) p hp
                omega)
              subst hs9
              have HR2 := Lib.hid hR2
              have HNb : Hid (∀ ad, A2 = some ad → T1 ≤ ad.block) := Lib.hid fun ad e => (hlt2 ad.block (by rw [e]; rfl)).1
              have HOr := Lib.hid (owns_low hrow.out hWx)
              have HOl := Lib.hid (hL.out.below hWx)
              have HOp := Lib.hid ((HOB.out.below hB1').lower hBT)
              have HBx := Lib.hid (hB.out.trans (hWx.mono hB.out.size))
              have hlt1 := Lib.hid hrow.out.lt
              have hxs := hWx.size
              have hBs := hB.out.size
              rename World => wx
              have hBx : w.heap.size ≤ wx.heap.size := by omega
              have hk4 : k ≤ 4194304 := by omega
              have eb : IntKind.i64.wrap ((b : Int) - 1) = (b : Int) - 1 := IntWalk.i64_in _ (by have := Hb.out; omega)
              have HPb : Hid (∀ j, j < m' → bitN (levRow V m' W k j) b = bitN (levRow V m' W k j) (W - 1 - k)) := Lib.hid fun j _ => by rw [← Hb.out]
              clear hN hN2 hU hnx2 hlt2 hR2 hW1 hB1' hWx hnx hB1 hR hL hB HOB HxT HRV hm' hrow hcB
              go_wp2_with (at_builtin; refine step_append_slice rfl (.tmp 61) (.tmp 63) rfl rfl HOr.out _ _ _ rfl hBx hk4 ?_; intro v6 w6 hown6 hgr6 hb6)
              go_roundw
              case rel => exact ⟨k + 1, (b : Int) - 1, L ++ [⟨AB, m', cB, fun j => bitN (levRow V m' W k j) b⟩], A2, c2, by omega, by have := Hb.out; omega, by go_num, rfl, Lib.hid (HR2.out.grown hgr6.out (fun _ ad e g => by
                  have g1 := HNb.out ad e
                  have g2 := (hlt1.out _ g).2
                  have g3 := HT.out
                  omega)), Lib.hid (by rw [pcells_snoc]; exact hown6.out), Lib.hid (HOl.out.push HOr.out hgr6.out HOp.out ⟨rfl, HPb.out⟩), Lib.hid (HBx.out.trans hb6)⟩
              case measure => simp [intOf]
    · obtain rfl : k = W := by omega
      obtain rfl : z = -1 := by omega
      clear hz
      go_wp2_with fail
      go_ret
      exact ⟨_, L, rfl, hrow.out, hL.out, hB.out⟩
end Go.Proofs.Ytfhflmojcfnhnaa
