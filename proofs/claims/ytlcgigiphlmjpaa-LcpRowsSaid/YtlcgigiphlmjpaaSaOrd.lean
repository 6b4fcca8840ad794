/- The developers' suffix.ordered: the places of numbers in the order of their suffixes. -/
import Derived.Test.YtlcgigiphlmjpaaSaParts
import Derived.Test.YtlcgigiphlmjpaaSaRowOf
import Derived.Test.YtlcgigiphlmjpaaSaLaid
namespace Go.Proofs.Ytlcgigiphlmjpaa
open Go.RowKit

set_option maxRecDepth 100000 in
set_option maxHeartbeats 1600000 in
theorem onlyDips_any {w : World} {T n c b g e h : Nat} {A : Option Addr} {X : Nat → Nat} (r : Rw w T A n c X b g e h) (hT : T ≤ w.heap.size) (Bp : Nat) (P : Option Addr) (k cp : Nat) (s : Nat → Nat) (hBp : Bp ≤ w.heap.size) (hk : k ≤ 4194304) (hs : ∀ j, j < k → s j < n) (hP : Its w Bp P k (fun j => ((s j : Nat) : Int))) :
    Calls Try.prog 42 #[.pointer (some ⟨g, 0, none⟩), .slice P k cp] w fun e' w' => ∃ (v : Value) (U : Nat → Int), e' = .returned v ∧ Picks (fun j => dip X n (s j)) s k U ∧
      w'.ownsRow w.heap.size 3 1 v (Pl.cnt (fun j => dip X n (s j)) k) (icells U (Pl.cnt (fun j => dip X n (s j)) k)) ∧ Below w.heap.size w w' := by
  obtain ⟨f, hf⟩ : ∃ f : Nat → Bool, (fun j => dip X n (s j)) = f := ⟨_, rfl⟩
  rw [hf]
  have HF := Lib.hid hf
  clear hf
  have HR := Lib.hid r
  have HP := Lib.hid hP
  have HS := Lib.hid hs
  obtain ⟨B, hB⟩ : ∃ B, w.heap.size = B := ⟨_, rfl⟩
  rw [hB] at hT hBp ⊢
  clear r hP hs
  go_enter Try.func42, Try.ntmps42
  go_wp2_with fail
  go_loopw [5, 10] (fun sl v wr => ∃ i : Nat, i ≤ k ∧ v = .int .i64 (i : Int) ∧ Hid (∃ U, Picks f s i U ∧ wr.ownsRow B 3 1 sl (Pl.cnt f i) (icells U (Pl.cnt f i))) ∧ Below B w wr) (fun _ v _ => k - (intOf v).toNat)
  case atStart => exact ⟨0, Nat.zero_le _, rfl, Lib.hid ⟨fun _ => 0, fun j hj => absurd hj (Nat.not_lt_zero j), World.ownsRow_nil _ _ _ _⟩, Below.refl _ _⟩
  case round =>
    obtain ⟨i, hi, rfl, hrow, hb⟩ := hrel
    have hbs := hb.size
    by_cases hlt : i < k
    · have hlti : (i : Int) < (k : Int) := by omega
      have hsn := HS.out i hlt
      obtain ⟨ad, rfl, _, hc0, _⟩ := HP.out.below (hb.mono hBp) i hlt
      have hc : wr.cell? (ad.add i) = some (.int .i64 ((s i : Nat) : Int)) := hc0
      clear hc0
      have hD := isDip_any (HR.out.below hb hT) hsn
      have hm := cnt_to f i
      obtain ⟨U, hU, hown⟩ := hrow.out
      have HU := Lib.hid hU
      have HO := Lib.hid hown
      obtain ⟨m, hmm⟩ : ∃ m, Pl.cnt f i = m := ⟨_, rfl⟩
      rw [hmm] at HO hm
      have HM := Lib.hid hmm
      have hBs : B ≤ wr.heap.size := by omega
      have hm4 : m ≤ 4194304 := by omega
      have hd0 : ∀ x : Bool, dip X n (s i) = x → f i = x := fun x e => by rw [← HF.out]; exact e
      cases hdp : dip X n (s i)
      · rw [hdp] at hD
        have HDp := Lib.hid (hd0 _ hdp)
        clear hU hown hmm hrow hdp hd0 hsn
        generalize s i = si at hc hD
        go_wp2_with (go_at_call 53; (with_reducible refine hD.mono ?_); rintro e w' ⟨rfl, rfl⟩)
        go_roundw
        case rel => exact ⟨i + 1, by omega, by go_num, Lib.hid ⟨U, HU.out.skip HDp.out, by rw [cnt_false HDp.out, HM.out]; exact HO.out⟩, hb⟩
        case measure => simp [intOf]; omega
      · rw [hdp] at hD
        have HDp := Lib.hid (hd0 _ hdp)
        obtain ⟨si, hsi⟩ : ∃ si, s i = si := ⟨_, rfl⟩
        rw [hsi] at hc hD
        have HSi := Lib.hid hsi
        clear hU hown hmm hrow hdp hd0 hsn hsi
        go_wp2_with (first
          | (go_at_call 53; (with_reducible refine hD.mono ?_); rintro e w' ⟨rfl, rfl⟩)
          | (at_builtin; refine step_append_int rfl (.tmp 17) (.tmp 19) rfl rfl HO.out (si : Int) rfl hBs hm4 ?_; intro v3 w3 hown3 hb3))
        go_roundw
        case rel => exact ⟨i + 1, by omega, by go_num, Lib.hid ⟨_, HU.out.take, by
          rw [cnt_true HDp.out, HM.out, ← icells_putI, HSi.out]
          exact hown3.out⟩, hb.trans hb3⟩
        case measure => simp [intOf]; omega
    · have hik : i = k := by omega
      have hge : ¬ (i : Int) < (k : Int) := by omega
      obtain ⟨U, hU, hown⟩ := hrow.out
      rw [hik] at hU hown
      have HU := Lib.hid hU
      have HO := Lib.hid hown
      clear hik hU hown hrow
      go_wp2_with fail
      go_ret
      exact ⟨_, rfl, U, HU.out, HO.out, hb⟩
theorem Its.congr_ {w : World} {B n : Nat} {A : Option Addr} {V V' : Nat → Int} (h : Its w B A n V) (e : ∀ k, k < n → V k = V' k) : Its w B A n V' := fun k hk => by
  have := h k hk
  rw [e k hk] at this
  exact this
/-- what ordered leaves. -/
def OrdPost (w : World) (X : Nat → Nat) (n : Nat) (e' : Ending) (w' : World) : Prop :=
  ∃ v s, e' = .returned v ∧ IsSA (xi X) n s ∧ w'.ownsRow w.heap.size 3 1 v n (icells (fun i => ((s i : Nat) : Int)) n) ∧ Below w.heap.size w w'
theorem laid_ord {X : Nat → Nat} {n m : Nat} {D : Nat → Nat} {S : Nat → Int} (h : LaidPost X n m D S) (ho : ∀ k l, k < l → l < m → SLess (xi X) n (D k) (D l)) : ∃ s, IsSA (xi X) n s ∧ ∀ i, i < n → S i = ((s i : Nat) : Int) := by
  obtain ⟨s, hs⟩ := h _ _ sless_ord2 sless_ord3 (fun k l hkl hl _ => sless_asymm (ho k l hkl hl))
  exact ⟨s, hs.isSA, hs.1⟩

set_option maxRecDepth 100000 in
set_option maxHeartbeats 3200000 in
theorem ordered_any : ∀ (n : Nat) (A : Option Addr) (c b : Nat) (X : Nat → Nat) (w : World), n ≤ 4194304 → b ≤ 4194304 → (A = none → n = 0 ∧ c = 0) → n ≤ c → c ≤ maxLen → (∀ p, p < n → X p < b) → Its w w.heap.size A n (xi X) →
    Calls Try.prog 32 #[.slice A n c, .int .i64 (b : Int)] w (OrdPost w X n) := by
  intro n
  induction n using Nat.strongRecOn with
  | ind n ih =>
  intro A c b X w hn hb hA hnc hcm hX ht
  unfold OrdPost
  rcases Nat.eq_zero_or_pos n with rfl | hn0
  · go_enter Try.func32, Try.ntmps32
    go_wp2_with fail
    go_ret
    exact ⟨_, rfl, fun i => i, ⟨fun i hi => absurd hi (Nat.not_lt_zero i), fun i j _ hj => absurd hj (Nat.not_lt_zero j)⟩, World.ownsRow_nil _ _ _ _, Below.refl _ _⟩
  · have HRo := Lib.hid (rowOf_any A n c b X w hn0 hn hb hnc hcm hX ht)
    have HIH := Lib.hid ih
    have hne0 : ¬ (n : Int) = 0 := by omega
    have hne1 : ((n : Int) == 0) = false := by rw [beq_eq_false_iff_ne]; omega
    clear ih ht
    go_enter Try.func32, Try.ntmps32
    go_wp2_with fail
    refine HRo.out.mono ?_
    rintro e1 w1 ⟨g, e, h, T, rfl, r1, hT1, k1⟩
    have HD1 := Lib.hid (dips_any r1 hT1)
    have HR1 := Lib.hid r1
    clear HRo r1
    go_wp2_with fail
    refine HD1.out.mono ?_
    rintro e1 w2 ⟨v2, U2, rfl, hU2, ho2, k2⟩
    obtain ⟨hdu, hdv⟩ := picks_up hU2
    obtain ⟨m, hm⟩ : ∃ m, Pl.cnt (dip X n) n = m := ⟨_, rfl⟩
    obtain ⟨d, hd⟩ : ∃ d : Nat → Nat, (fun c => (U2 c).toNat) = d := ⟨_, rfl⟩
    rw [hm] at hdu hdv ho2
    rw [hd] at hdu
    have hmn : m < n := by
      have h1 := pigeon n m (fun p => decide (p ≠ 0)) d (fun i hi => ⟨(hdu.is i hi).1, by
        have := (dip_is (hdu.is i hi).2).1
        simp; omega⟩) hdu.inj
      have h2 : Pl.cnt (fun p => decide (p ≠ 0)) n + 1 ≤ n := by
        have h3 := cnt_parts (fun _ => true) (fun p => decide (p ≠ 0)) n
        have h4 := cnt_all (fun _ => true) n (fun _ _ => rfl)
        have h5 := pigeon n 1 (fun j => true && !decide (j ≠ 0)) (fun _ => 0) (fun i hi => ⟨hn0, by simp⟩) (fun i j hi hj _ => by omega)
        have h6 : Pl.cnt (fun j => true && decide (j ≠ 0)) n = Pl.cnt (fun p => decide (p ≠ 0)) n := by congr 1
        omega
      omega
    have hU2d : ∀ k, k < m → U2 k = ((d k : Nat) : Int) := fun k hk => by rw [← hd]; exact hdv k hk
    have hsmall : ∀ k, k < m → d k < n := fun k hk => (hdu.is k hk).1
    obtain ⟨P, cp, rfl, hP⟩ := ItsR.of_own ho2 (fun i hi => by
      rw [hU2d i hi]
      have := hsmall i hi
      omega)
    have hPd := hP.2.2.2.congr_ hU2d
    have hT2 : T ≤ w2.heap.size := Nat.le_trans hT1 k2.size
    have r2 := HR1.out.below k2 hT1
    have HL2 := Lib.hid (laid_any r2 hT2 P m cp d hdu.toDips hPd)
    have HDu := Lib.hid hdu
    have HP := Lib.hid hPd
    have hc0P := hP.1
    clear HD1 hU2 ho2 hdv hd hU2d hP hPd r2
    go_wp2_with fail
    refine HL2.out.mono ?_
    rintro e1 w3 ⟨g3, c3, S3, rfl, ho3, k3, hS3⟩
    obtain ⟨s, hs⟩ := hS3 _ _ ahead_ord2 ahead_ord3 (ahead_dips HDu.out.toDips)
    have hPs : Its w3 w3.heap.size (some ⟨g3, 0, none⟩) n (fun j => ((s j : Nat) : Int)) := by
      obtain ⟨A', c', e', hI⟩ := ItsR.of_own ho3 (fun i hi => by
        rw [hs.1 i hi]
        have := hs.2.1 i hi
        omega)
      cases e'
      exact hI.2.2.2.congr_ hs.1
    have r3 := (HR1.out.below k2 hT1).below k3 hT2
    have hT3 : T ≤ w3.heap.size := Nat.le_trans hT2 k3.size
    have HO3 := Lib.hid (onlyDips_any r3 hT3 w3.heap.size (some ⟨g3, 0, none⟩) n c3 s (Nat.le_refl _) hn hs.2.1 hPs)
    have HSs := Lib.hid hs
    clear HL2 hS3 ho3 hPs r3 hs
    go_wp2_with fail
    refine HO3.out.mono ?_
    rintro e1 w4 ⟨v4, U4, rfl, hU4, ho4, k4⟩
    obtain ⟨hD4, hv4, hor⟩ := picks_dips HSs.out hU4
    have hmm := hD4.many.trans HDu.out.toDips.many.symm
    rw [hmm] at hD4 hv4 hor ho4
    obtain ⟨σ, hσ, hO⟩ := dipOrd_of HDu.out hD4 hor
    have hσ : ∀ j, j < m → (U4 j).toNat = d (σ j) := hσ
    have hUσ : ∀ j, j < m → U4 j = ((d (σ j) : Nat) : Int) := fun j hj => by rw [hv4 j hj, hσ j hj]
    obtain ⟨Qs, cq, rfl, hQ⟩ := ItsR.of_own ho4 (fun i hi => by
      rw [hUσ i hi]
      have := hsmall (σ i) (hO.lt i hi)
      omega)
    have hQd := hQ.2.2.2.congr_ hUσ
    have hT4 : T ≤ w4.heap.size := Nat.le_trans hT3 k4.size
    have r4 := ((HR1.out.below k2 hT1).below k3 hT2).below k4 hT3
    have s3 := k3.size
    have s4 := k4.size
    have hP4 : Its w4 w2.heap.size P m (fun k => ((d k : Nat) : Int)) := (HP.out.below k3).below (k4.mono s3)
    have HN := Lib.hid (named_any r4 hT4 hO P Qs cp cq (hP4.mono_ (by omega)) hQd)
    have HOr := Lib.hid hO
    have HO4 := Lib.hid ho4
    have HUσ := Lib.hid hUσ
    have HQd := Lib.hid hQd
    clear HO3 hU4 hD4 hv4 hor hσ hO hQ hQd r4 hP4 ho4 hUσ HSs
    go_wp2_with fail
    refine HN.out.mono ?_
    rintro e1 w5 ⟨g5, Y, rfl, hN, ho5, k5⟩
    have s5 := k5.size
    have hlo := unl_to (X := X) (m := m) (d := d) (σ := σ) m
    obtain ⟨u, hu⟩ : ∃ u, unl X m d σ m = u := ⟨_, rfl⟩
    have HYb := Lib.hid (HOr.out.below hN)
    have HYo := Lib.hid (HOr.out.order hN)
    have HUn := Lib.hid (fun hle => HOr.out.unlike hle)
    rw [hu] at hlo HYb HUn ⊢
    have hT5 : T ≤ w5.heap.size := Nat.le_trans hT4 k5.size
    have r5 := (((HR1.out.below k2 hT1).below k3 hT2).below k4 hT3).below k5 hT4
    clear HN hN hu
    by_cases hlt : u < m
    · have hltu : (u : Int) < (m : Int) := by omega
      have h5 : Its w5 w5.heap.size (some ⟨g5, 0, none⟩) m (xi Y) := by
        obtain ⟨A', c', e', hI⟩ := ItsR.of_own ho5 (fun i hi => by
          have := HYb.out i hi
          show -9223372036854775808 ≤ ((Y i : Nat) : Int) ∧ ((Y i : Nat) : Int) ≤ 9223372036854775807
          omega)
        cases e'
        exact hI.2.2.2
      have HI5 := Lib.hid (HIH.out m hmn (some ⟨g5, 0, none⟩) m u Y w5 (by omega) (by omega) (fun e' => by cases e') (Nat.le_refl _) (by unfold maxLen; omega) HYb.out h5)
      have HR5 := Lib.hid r5
      clear h5 ho5 r5
      go_wp2_with fail
      refine HI5.out.mono ?_
      rintro e1 w6 ⟨v6, y, rfl, hy, ho6, k6⟩
      have s6 := k6.size
      obtain ⟨q, cq', e', hq1, hq2, hq3, hq4⟩ := owns_some HO4.out (show 0 < m by omega)
      cases e'
      obtain ⟨y6, c6, rfl, hy1, hy2, _, _⟩ := owns_some ho6 (show 0 < m by omega)
      have ho46 : w6.ownsRow w3.heap.size 3 1 (.slice (some ⟨q, 0, none⟩) m cq) m (icells U4 m) := own_off HO4.out ((k6.block q (by omega)).trans (k5.block q hq2))
      have hcy : ∀ j, j < m → w6.cell? ⟨y6, j, none⟩ = some (.int .i64 ((y j : Nat) : Int)) := fun j hj => by
        rw [ho6.cellAt j (by omega)]
        exact icells_at (fun i => ((y i : Nat) : Int)) m j hj
      have HCy := Lib.hid hcy
      have HY := Lib.hid hy
      have L0 : Hid (∃ Z, w6.ownsRow w3.heap.size 3 1 (.slice (some ⟨q, 0, none⟩) m cq) m (icells Z m) ∧ ∀ j, j < 0 → Z j = ((d (y j) : Nat) : Int)) := Lib.hid ⟨U4, ho46, fun j hj => absurd hj (Nat.not_lt_zero j)⟩
      clear HI5 hy ho6 ho46 hcy
      go_wp2_with fail
      go_loopw [40] (fun s wr => ∃ k : Nat, k ≤ m ∧ s = .int .i64 (k : Int) ∧ Hid (∃ Z, wr.ownsRow w3.heap.size 3 1 (.slice (some ⟨q, 0, none⟩) m cq) m (icells Z m) ∧ ∀ j, j < k → Z j = ((d (y j) : Nat) : Int)) ∧ Hid (Off (fun z => z ≠ q) w6 wr)) (fun s _ => m - (intOf s).toNat)
      case atStart => exact ⟨0, Nat.zero_le _, rfl, L0, Lib.hid (Off.refl _ _)⟩
      case round =>
        clear L0
        obtain ⟨k, hk, rfl, hZ, hOf⟩ := hrel
        have s7 := hOf.out.size
        have k7 : Below w3.heap.size w6 wr := hOf.out.below (by omega) (fun z hz => by omega)
        by_cases hlk : k < m
        · have hltk : (k : Int) < (m : Int) := by omega
          obtain ⟨Z, hZo, hZj⟩ := hZ.out
          have hyk := HY.out.1 k hlk
          have cy := hOf.out.cell (HCy.out k hlk) (show y6 ≠ q by omega)
          have hPr : Its wr w2.heap.size P m (fun k => ((d k : Nat) : Int)) := ((((HP.out.below k3).below (k4.mono s3)).below (k5.mono (by omega))).below (k6.mono (by omega))).below (k7.mono s3)
          obtain ⟨pd, rfl, _, hcp0, _⟩ := hPr (y k) hyk
          have hcp : wr.cell? (pd.add (y k)) = some (.int .i64 ((d (y k) : Nat) : Int)) := hcp0
          clear hcp0
          have hcq : wr.cell? ⟨q, k, none⟩ = some (.int .i64 (Z k)) := by
            rw [hZo.cellAt k (by omega)]
            exact icells_at Z m k hlk
          have hfq := owns_free hZo k
          have hym : ((y k : Nat) : Int) < (m : Int) := by omega
          have HZ2 : Hid (∃ Z', (wr.setCell ⟨q, k, none⟩ (.int .i64 ((d (y k) : Nat) : Int))).ownsRow w3.heap.size 3 1 (.slice (some ⟨q, 0, none⟩) m cq) m (icells Z' m) ∧ ∀ j, j < k + 1 → Z' j = ((d (y j) : Nat) : Int)) := Lib.hid ⟨putI Z k ((d (y k) : Nat) : Int), by
            have := owns_put hZo k (.int .i64 ((d (y k) : Nat) : Int))
            rw [icells_put] at this
            exact this, fun j hj => by
            by_cases e : j = k
            · rw [e, putI_at]
            · rw [putI_off _ e]
              exact hZj j (by omega)⟩
          have HOf2 : Hid (Off (fun z => z ≠ q) w6 (wr.setCell ⟨q, k, none⟩ (.int .i64 ((d (y k) : Nat) : Int)))) := Lib.hid (hOf.out.trans (Off.setCell (fun hh => hh rfl) _))
          clear hZo hZj hZ hOf hPr hyk k7 s7
          generalize d (y k) = dk at *
          generalize y k = yk at *
          generalize Z k = zk at *
          go_wp2_with fail
          go_roundw
          case rel => exact ⟨k + 1, by omega, by go_num, HZ2, HOf2⟩
          case measure => simp [intOf]; omega
        · have hkm : k = m := by omega
          have hge : ¬ (k : Int) < (m : Int) := by omega
          rw [hkm] at hZ
          obtain ⟨Z, hZo, hZj⟩ := hZ.out
          have hI : Its wr wr.heap.size (some ⟨q, 0, none⟩) m (fun j => ((d (y j) : Nat) : Int)) := by
            obtain ⟨A', c', e', hI⟩ := ItsR.of_own hZo (fun i hi => by
              rw [hZj i hi]
              have := hsmall (y i) (HY.out.1 i hi)
              omega)
            cases e'
            exact hI.2.2.2.congr_ hZj
          have k57 : Below w3.heap.size w5 wr := (k6.mono (by omega)).trans k7
          have rr := HR5.out.below k57 hT3
          have hDy := dips_of HDu.out.toDips HY.out.1 (fun i j hi hj e => HY.out.inj hi hj e)
          have HLf := Lib.hid (laid_any rr (by omega) (some ⟨q, 0, none⟩) m cq (fun j => d (y j)) hDy hI)
          have HOrd := Lib.hid (fun k l (hkl : k < l) (hl : l < m) => HYo.out (y k) (y l) (HY.out.1 k (by omega)) (HY.out.1 l hl) (HY.out.2 k l hkl hl))
          have HBf : Hid (Below w.heap.size w wr) := Lib.hid (k1.trans ((k2.mono k1.size).trans ((k3.mono (by have := k1.size; have := k2.size; omega)).trans ((k4.mono (by have := k1.size; have := k2.size; omega)).trans ((k5.mono (by have := k1.size; have := k2.size; omega)).trans (k57.mono (by have := k1.size; have := k2.size; omega)))))))
          have hsz : w.heap.size ≤ wr.heap.size := HBf.out.size
          clear hkm hZ hZo hZj hI rr hDy
          go_wp2_with fail
          refine HLf.out.mono ?_
          rintro e1 w8 ⟨g8, c8, S8, rfl, ho8, k8, hS8⟩
          obtain ⟨s8, hs8, he8⟩ := laid_ord hS8 HOrd.out
          have HF : Hid (w8.ownsRow w.heap.size 3 1 (.slice (some ⟨g8, 0, none⟩) n c8) n (icells (fun i => ((s8 i : Nat) : Int)) n)) := Lib.hid (by
            rw [← icells_congr (U := S8) he8]
            exact own_base ho8 (Nat.le_trans hsz (ho8.lt g8 rfl).1))
          have HBf8 := Lib.hid (HBf.out.trans (k8.mono hsz))
          have HS8 := Lib.hid hs8
          clear ho8 hS8 hs8 he8
          go_wp2_with fail
          go_ret
          exact ⟨_, s8, rfl, HS8.out, HF.out, HBf8.out⟩
    · have hltu : ¬ (u : Int) < (m : Int) := by omega
      have hQ5 : Its w5 w5.heap.size Qs m (fun j => ((d (σ j) : Nat) : Int)) := (HQd.out.below k5).mono_ s5
      have hDσ := dips_of HDu.out.toDips HOr.out.lt HOr.out.inj
      have HLf := Lib.hid (laid_any r5 hT5 Qs m cq (fun j => d (σ j)) hDσ hQ5)
      have HOrd := Lib.hid (HUn.out (by omega))
      have HBf : Hid (Below w.heap.size w w5) := Lib.hid (k1.trans ((k2.mono k1.size).trans ((k3.mono (by have := k1.size; have := k2.size; omega)).trans ((k4.mono (by have := k1.size; have := k2.size; omega)).trans (k5.mono (by have := k1.size; have := k2.size; omega))))))
      have hsz : w.heap.size ≤ w5.heap.size := HBf.out.size
      clear ho5 r5 hQ5 hDσ
      go_wp2_with fail
      refine HLf.out.mono ?_
      rintro e1 w8 ⟨g8, c8, S8, rfl, ho8, k8, hS8⟩
      obtain ⟨s8, hs8, he8⟩ := laid_ord hS8 HOrd.out
      have HF : Hid (w8.ownsRow w.heap.size 3 1 (.slice (some ⟨g8, 0, none⟩) n c8) n (icells (fun i => ((s8 i : Nat) : Int)) n)) := Lib.hid (by
        rw [← icells_congr (U := S8) he8]
        exact own_base ho8 (Nat.le_trans hsz (ho8.lt g8 rfl).1))
      have HBf8 := Lib.hid (HBf.out.trans (k8.mono hsz))
      have HS8 := Lib.hid hs8
      clear ho8 hS8 hs8 he8
      go_wp2_with fail
      go_ret
      exact ⟨_, s8, rfl, HS8.out, HF.out, HBf8.out⟩
end Go.Proofs.Ytlcgigiphlmjpaa
