/- For every input colophonlaw07.CacheSame returns true, and its arguments read as they read. No condition but that the two tables lie as the program's text lays them (the card ties it). -/
import Derived.Test.YtjmajminfmcjcaaDoorCacLaw
import Derived.Deep.MidRow
namespace Go.Proofs.YtjmajminfmcjcaaDoor.cacheSame
open Go.ChangeShapes Go.WideShapes Go.ChangeAt Go.RowKit

/-- a page of the image can be had where there are as many frames as pages. -/
theorem hold_room {c : CS} (hU : Unlike c.F) (hP : Paged c.F c.n) (hN : c.n ≤ c.F.length) {x : Nat} (hx : x < c.n) : (holdR c (x : Int)).2.2 = 0 := by
  unfold holdR
  rw [if_neg (by omega)]
  split
  · rfl
  · rename_i e
    split
    · rfl
    · rename_i e2
      refine absurd e (all_there (N := c.n) hU (fun f hf => (hP f hf).resolve_left fun h => ?_) hN hx)
      obtain ⟨i, hi, he⟩ := List.getElem_of_mem hf
      exact findF_none e2 i f (by rw [List.getElem?_eq_getElem hi, he]) h
/-- what the loop keeps of the cache with frames enough. -/
structure Seen (c : CS) (S : Nat → Nat) (i : Nat) : Prop where
  n : c.n = 13
  upto : Upto c i
  unlike : Unlike c.F
  idle : Idle c.F
  paged : Paged c.F c.n
  wide : 13 ≤ c.F.length
  there : ∀ p : Nat, S p ≠ 0 → (findF c.F (p : Int)).isSome = true
theorem Seen.step {c : CS} {S : Nat → Nat} {i : Nat} (h : Seen c S i) {x : Nat} (hx : x < 13) : Seen (holdR c (x : Int)).1 (mark S x) (i + 1) :=
  ⟨by rw [holdR_n]; exact h.n, h.upto.hold _, h.unlike.hold _, h.idle.hold _, paged_n h.paged, by rw [holdR_length]; exact h.wide, fun p hp => by
    have hn := h.n
    have hw := h.wide
    by_cases e : x = p
    · subst e
      exact held_there (hold_there (hold_room h.unlike h.paged (by omega) (by omega)) h.unlike h.idle (by omega))
    · unfold mark at hp
      rw [if_neg e] at hp
      exact keeps_all h.unlike h.paged (by omega) _ (h.there p hp) (by omega)⟩
theorem Seen.new : Seen (newC 13 13) (fun _ => 0) 0 :=
  ⟨rfl, Upto.new _ _, Unlike.new _ _, Idle.new _ _, Paged.new _ _, by decide, fun p hp => absurd rfl hp⟩
theorem mark_bit {S : Nat → Nat} (h : ∀ p, S p ≤ 1) (x : Nat) : ∀ p, mark S x p ≤ 1 := fun p => by
  unfold mark
  split
  · exact Nat.le_refl 1
  · exact h p

/-- bytes that lie from block lo on. -/
def Ans (w : World) (u : Value) (n : Nat) (V : Nat → Nat) (lo : Nat) : Prop :=
  ∃ (A : Option Addr) (c : Nat), u = .slice A n c ∧ ∀ k, k < n → ∃ ad : Addr, A = some ad ∧ lo ≤ ad.block ∧ ad.block < w.heap.size ∧ w.cell? (ad.add k) = some (.int .u8 ((V k : Nat) : Int))
theorem Ans.off {w w' : World} {u : Value} {n : Nat} {V : Nat → Nat} {lo : Nat} {p : Nat → Prop} (h : Ans w u n V lo) (ho : Off p w w') (hp : ∀ k, lo ≤ k → k < w.heap.size → p k) : Ans w' u n V lo := by
  obtain ⟨A, c, e, h1⟩ := h
  refine ⟨A, c, e, fun k hk => ?_⟩
  obtain ⟨ad, e1, e2, e3, e4⟩ := h1 k hk
  exact ⟨ad, e1, e2, Nat.lt_of_lt_of_le e3 ho.size, ho.cell e4 (by rw [add_block]; exact hp _ e2 e3)⟩
theorem ans_of {w w' : World} {fp' : Nat → Prop} {u : Value} {k : Nat} {V : Nat → Nat} (h0 : k = 0 → ∃ gb cap, u = .slice (some ⟨gb, 0, none⟩) 256 cap ∧ ¬ fp' gb ∧ w.heap.size ≤ gb ∧ w'.ownsRow w.heap.size 5 1 (.slice (some ⟨gb, 0, none⟩) 256 cap) 256 (ycells V 256)) (h1 : k ≠ 0 → u = .slice none 0 0) :
    Ans w' u (if k = 0 then 256 else 0) V w.heap.size := by
  by_cases e : k = 0
  · obtain ⟨gb, cap, rfl, _, hg, hr⟩ := h0 e
    rw [if_pos e]
    exact ⟨some ⟨gb, 0, none⟩, cap, rfl, fun j hj => ⟨⟨gb, 0, none⟩, rfl, hg, (hr.lt gb rfl).2, hr.cells rfl j _ (ycells_at _ _ j hj)⟩⟩
  · rw [if_neg e]
    exact ⟨none, 0, h1 e, fun j hj => absurd hj (Nat.not_lt_zero j)⟩

theorem size13 : (Tryd.prog.info? 54).map (·.size) = some 13 := by kernel_rfl
theorem idx13 (S : Nat → Nat) (j : Nat) (hj : j < 13) (w : World) : (Instr.index 54 (.agg (scel S 13).toArray) (.int .i64 (j : Int))).run Tryd.prog w = .ok (.int .i64 ((S j : Nat) : Int)) w := by
  have h := scel_at S 13 j hj
  generalize scel S 13 = cs at h
  have h1 : (0 : Int) ≤ (j : Int) ∧ (j : Int) < 13 := by omega
  simp [Instr.index, run_underlying Tryd.underlying54, asIntOf, go_sem, h1, hj, h]
theorem scel_length (S : Nat → Nat) (n : Nat) : (scel S n).length = n := by unfold scel; simp
set_option maxRecDepth 100000 in
set_option maxHeartbeats 6400000 in
theorem walk (a : Int) (A : Option Addr) (n c : Nat) (V : Nat → Int) (w : World) (_ : (Lit.int .i64 a).wf = true) (_ : n ≤ maxLen) (_ : A = none → n = 0 ∧ c = 0) (ho : Its w w.heap.size A n V) (ht : Tabs w) :
    Calls Tryd.prog 6 #[.int .i64 a, .slice A n c] w fun e w' => e = .returned (.bool true) ∧ Below w.heap.size w w' := by
  have HF := Lib.hid (first_any w ht)
  have HT := Lib.hid ht
  have HO := Lib.hid ho
  obtain ⟨k, hk, hk1, hk5⟩ : ∃ k : Nat, wrap64 (1 + wrap64 ((IntKind.u64.wrap a).tmod 5)) = (k : Int) ∧ 1 ≤ k ∧ k ≤ 5 := by
    obtain ⟨j, hj, hj5⟩ := turn_n a 5 (by decide) (by decide)
    have hj' : wrap64 ((IntKind.u64.wrap a).tmod 5) = (j : Int) := hj
    refine ⟨j + 1, ?_, by omega, by omega⟩
    rw [hj']
    unfold wrap64
    omega
  have HK := Lib.hid hk
  clear ht ho hk
  go_enter Tryd.func6, Tryd.ntmps6
  go_wp2_with fail
  refine HF.out.mono ?_
  rintro e w0 ⟨rfl, hb0⟩
  have HMa := Lib.hid (made_any 12 (by decide) (k : Int) w0 (HT.out.keep hb0))
  clear HF
  go_wp2_with fail
  rw [HK.out]
  refine HMa.out.mono ?_
  rintro e w1 ⟨hm, _, hb1⟩
  obtain ⟨va, fa, La, rfl, hCa, hla, hVa⟩ := hm (by omega)
  rw [Int.toNat_natCast] at hCa
  have hB1 := hb0.trans (hb1.mono hb0.size)
  have HMb := Lib.hid (made_any 12 (by decide) (k : Int) w1 (HT.out.keep hB1))
  clear HMa hm
  go_wp2_with fail
  refine HMb.out.mono ?_
  rintro e w2 ⟨hm, _, hb2⟩
  obtain ⟨vb, fb, Lb, rfl, hCb, hlb, hVb⟩ := hm (by omega)
  rw [Int.toNat_natCast] at hCb
  have hB2 := hB1.trans (hb2.mono hB1.size)
  have HMc := Lib.hid (made_any 12 (by decide) 13 w2 (HT.out.keep hB2))
  clear HMb hm
  go_wp2_with fail
  refine HMc.out.mono ?_
  rintro e w3 ⟨hm, _, hb3⟩
  obtain ⟨vc, fc, Lc, rfl, hCc, hlc, _⟩ := hm (by decide)
  have hB3 := hB2.trans (hb3.mono hB2.size)
  have hs1 := hb1.size
  have hs2 := hb2.size
  have hs3 := hb3.size
  have hs0 := hb0.size
  have hab0 : ∀ k, fa k → ¬ fb k := fun k h1 h2 => by have := hCa.lt h1; have := hlb k h2; omega
  have hac0 : ∀ k, fa k → ¬ fc k := fun k h1 h2 => by have := hCa.lt h1; have := hlc k h2; omega
  have hbc0 : ∀ k, fb k → ¬ fc k := fun k h1 h2 => by have := hCb.lt h1; have := hlc k h2; omega
  have hCa3 := (hCa.keep hb2).keep hb3
  have hCb3 := hCb.keep hb3
  have HCc : Hid (CacAt fc w3 vc (newC 13 13) Lc) := Lib.hid hCc
  obtain ⟨aa, rfl⟩ := hCa.ptr
  obtain ⟨ab, rfl⟩ := hCb.ptr
  obtain ⟨ac, rfl⟩ := hCc.ptr
  have HV : Hid (∀ x, x < 13 → ∀ k, k < 256 → imageOf La (264 * x + k) = imageOf Lb (264 * x + k)) := Lib.hid fun x hx k hk => by
    rw [hVa _ (by omega), hVb _ (by omega)]
  have HSe : Hid (Seen (newC 13 13) (fun _ => 0) 0) := Lib.hid Seen.new
  have HU0 : Hid (Upto (newC 13 k) 0 ∧ (newC 13 k).n = 13) := Lib.hid ⟨Upto.new _ _, rfl⟩
  have hla0 : ∀ j, fa j → w.heap.size ≤ j := fun j h => by have := hla j h; omega
  have hlb0 : ∀ j, fb j → w.heap.size ≤ j := fun j h => by have := hlb j h; omega
  have hlc0 : ∀ j, fc j → w.heap.size ≤ j := fun j h => by have := hlc j h; omega
  rw [show (12 + 1 : Nat) = 13 from rfl] at hCa3 hCb3
  generalize newC 13 13 = q0 at HCc HSe
  generalize newC 13 k = p0 at hCa3 hCb3 HU0
  clear hm HMc hCa hCb hCc hla hlb hlc hVa hVb hb1 hb2 hb3 hB1 hB2
  go_upto_block 0 with (fail)
  have hLz : Lies (w3.alloc (.cells (scel (fun _ => 0) 13).toArray 54)) w3.heap.size 54 (scel (fun _ => 0) 13) := lies_new w3 _ _
  have hbx : Below w3.heap.size w3 (w3.alloc (.cells (scel (fun _ => 0) 13).toArray 54)) := (Below.refl _ _).alloc (Nat.le_refl _) _
  have HA1 := Lib.hid (hCa3.keep hbx)
  have HB1 := Lib.hid (hCb3.keep hbx)
  have HC1 := Lib.hid (HCc.out.keep hbx)
  have hna : ¬ fa w3.heap.size := fun h => Nat.lt_irrefl _ (hCa3.lt h)
  have hnb : ¬ fb w3.heap.size := fun h => Nat.lt_irrefl _ (hCb3.lt h)
  have hnc : ¬ fc w3.heap.size := fun h => Nat.lt_irrefl _ (HCc.out.lt h)
  have hBA : Below w.heap.size w (w3.alloc (.cells (scel (fun _ => 0) 13).toArray 54)) := hB3.alloc hB3.size _
  have hgb := hB3.size
  change Code.wp _ _ _ _ (w3.alloc (.cells (scel (fun _ => 0) 13).toArray 54))
  generalize w3.alloc (.cells (scel (fun _ => 0) 13).toArray 54) = wl at hLz HA1 HB1 HC1 hBA hbx ⊢
  generalize w3.heap.size = gb at hLz hna hnb hnc hgb hbx hs3 ⊢
  clear HCc hCa3 hCb3 hB3 hbx
  go_cut [] (fun wx => Below w.heap.size w wx)
  case first =>
    go_wp2_with fail
    go_loopw [35] (fun v wr => ∃ (i : Nat) (p q : CS) (fa fb fc : Nat → Prop) (S : Nat → Nat), i ≤ n ∧ i ≤ 100 ∧ v = .int .i64 (i : Int) ∧ Hid (Upto p i ∧ p.n = 13) ∧ Hid (Seen q S i) ∧ Hid (CacAt fa wr (.pointer (some aa)) p La) ∧ Hid (CacAt fb wr (.pointer (some ab)) p Lb) ∧ Hid (CacAt fc wr (.pointer (some ac)) q Lc) ∧
      Hid ((∀ k, fa k → ¬ fb k) ∧ (∀ k, fa k → ¬ fc k) ∧ (∀ k, fb k → ¬ fc k)) ∧ Hid ((∀ k, fa k → w.heap.size ≤ k) ∧ (∀ k, fb k → w.heap.size ≤ k) ∧ (∀ k, fc k → w.heap.size ≤ k)) ∧ Hid (¬ fa gb ∧ ¬ fb gb ∧ ¬ fc gb) ∧ Hid (Lies wr gb 54 (scel S 13)) ∧ Hid (∀ p, S p ≤ 1) ∧ Below w.heap.size w wr) (fun v _ => n - (intOf v).toNat)
    case atStart => exact ⟨0, p0, q0, fa, fb, fc, fun _ => 0, Nat.zero_le _, Nat.zero_le _, rfl, HU0, HSe, HA1, HB1, HC1, Lib.hid ⟨hab0, hac0, hbc0⟩, Lib.hid ⟨hla0, hlb0, hlc0⟩, Lib.hid ⟨hna, hnb, hnc⟩, Lib.hid hLz, Lib.hid (fun _ => Nat.zero_le _), hBA⟩
    case round =>
      clear HU0 HSe HA1 HB1 HC1 hab0 hac0 hbc0 hla0 hlb0 hlc0 hna hnb hnc hLz hBA hs1 hs2 hs3 hs0
      obtain ⟨i, p, q, fa, fb, fc, S, hin, hi100, rfl, hup, hse, hA, hBc, hC, hdis, hlow, hng, hS, hbit, hB⟩ := hrel
      by_cases hlt : i < n
      · obtain ⟨ad, rfl, had, hV, hVr1, hVr2⟩ := (HO.out.below hB) i hlt
        have hgbl := hS.out.lt
        by_cases h100 : i < 100
        · obtain ⟨x, hx, hx13⟩ := turn_n (V i) 13 (by decide) (by decide)
          have hx' : wrap64 ((IntKind.u64.wrap (V i)).tmod 13) = (x : Int) := hx
          have HX := Lib.hid hx'
          have hx13i : (x : Int) < 13 := by omega
          have hcalm : Calm p := hup.out.1.calm (by omega) (by rw [hup.out.2]; omega)
          have hcalmq : Calm q := hse.out.upto.calm (by omega) (by rw [hse.out.n]; omega)
          have HCalmQ := Lib.hid hcalmq
          have HCalm := Lib.hid hcalm
          have H1 := Lib.hid (lowHold hA.out hcalm hB.size hlow.out.1 (x : Int))
          have hcalm2 : Calm (holdR p (x : Int)).1 := (hup.out.1.hold (x : Int)).calm (by omega) (by rw [holdR_n, hup.out.2]; omega)
          have HCalm2 := Lib.hid hcalm2
          have HUp2 : Hid (Upto (holdR p (x : Int)).1 (i + 1) ∧ (holdR p (x : Int)).1.n = 13) := Lib.hid ⟨hup.out.1.hold _, by rw [holdR_n]; exact hup.out.2⟩
          have HSe2 := Lib.hid (hse.out.step hx13)
          clear hx hx' hcalm hcalmq hcalm2
          go_wp2_with fail
          rw [HX.out]
          refine H1.out.mono ?_
          rintro e w2 ⟨fa2, ua, rfl, hA2, hla2, hsa, hoa, hb2, hra, hza⟩
          have hwr2 := hoa.size
          have hB2 := hB.trans hb2
          have hBc2 := hBc.out.aside hoa (fun k h1 h2 => hdis.out.1 k h2 h1)
          have hC2 := hC.out.aside hoa (fun k h1 h2 => hdis.out.2.1 k h2 h1)
          have hua := ans_of hra hza
          have hS2 : Lies w2 gb 54 (scel S 13) := hS.out.same (hoa.block gb hgbl hng.out.1)
          have H2 := Lib.hid (lowHold hBc2 HCalm.out hB2.size hlow.out.2.1 (x : Int))
          have hda : (∀ k, fa2 k → ¬ fb k) ∧ (∀ k, fa2 k → ¬ fc k) := ⟨fun k h1 h2 => (hsa k h1).elim (fun h => hdis.out.1 k h h2) (fun h => by have := hBc.out.lt h2; omega), fun k h1 h2 => (hsa k h1).elim (fun h => hdis.out.2.1 k h h2) (fun h => by have := hC.out.lt h2; omega)⟩
          have hnga : ¬ fa2 gb := fun h => (hsa gb h).elim hng.out.1 (fun h => by omega)
          have HA2 := Lib.hid hA2
          have HC2 := Lib.hid hC2
          have HS2 := Lib.hid hS2
          have HUa := Lib.hid hua
          have HDa := Lib.hid hda
          have HLa2 := Lib.hid hla2
          have HBc2 := Lib.hid hBc2
          clear hA2 hC2 hS2 hua hda hla2 hra hza hsa hoa hb2 H1 hBc2
          go_wp2_with fail
          refine H2.out.mono ?_
          rintro e w3 ⟨fb2, ub, rfl, hBb3, hlb2, hsb, hob, hb3, hrb, hzb⟩
          have hw23 := hob.size
          have hB3 := hB2.trans hb3
          have hA3 := HA2.out.aside hob HDa.out.1
          have hC3 := HC2.out.aside hob (fun k h1 h2 => hdis.out.2.2 k h2 h1)
          have hub := ans_of hrb hzb
          have hua3 := HUa.out.off hob (fun k h1 _ h2 => by have := hBc.out.lt h2; omega)
          have hS3 : Lies w3 gb 54 (scel S 13) := HS2.out.same (hob.block gb (by omega) hng.out.2.1)
          have H3 := Lib.hid (lowHold hC3 HCalmQ.out hB3.size hlow.out.2.2 (x : Int))
          have hdb : (∀ k, fa2 k → ¬ fb2 k) ∧ (∀ k, fb2 k → ¬ fc k) := ⟨fun k h1 h2 => (hsb k h2).elim (fun h => HDa.out.1 k h1 h) (fun h => by have := HA2.out.lt h1; omega), fun k h1 h2 => (hsb k h1).elim (fun h => hdis.out.2.2 k h h2) (fun h => by have := HC2.out.lt h2; omega)⟩
          have hngb : ¬ fb2 gb := fun h => (hsb gb h).elim hng.out.2.1 (fun h => by omega)
          have HA3 := Lib.hid hA3
          have HB3 := Lib.hid hBb3
          have HC3 := Lib.hid hC3
          have HS3 := Lib.hid hS3
          have HUa3 := Lib.hid hua3
          have HUb3 := Lib.hid hub
          have HDb := Lib.hid hdb
          have HLb2 := Lib.hid hlb2
          clear hA3 hC3 hS3 hua3 hub hdb hlb2 hrb hzb hsb hob hb3 H2 hBb3 HA2 HC2 HS2 HUa
          go_wp2_with fail
          refine H3.out.mono ?_
          rintro e w4 ⟨fc2, uc, rfl, hC4, hlc2, hsc, hoc, hb4, _, _⟩
          have hw34 := hoc.size
          have hB4 := hB3.trans hb4
          have hA4 := HA3.out.aside hoc HDa.out.2
          have hBb4 := HB3.out.aside hoc HDb.out.2
          have hua4 := HUa3.out.off hoc (fun k h1 _ h2 => by have := hC.out.lt h2; omega)
          have hub4 := HUb3.out.off hoc (fun k h1 _ h2 => by have := hC.out.lt h2; omega)
          have hS4 : Lies w4 gb 54 (scel S 13) := HS3.out.same (hoc.block gb (by omega) hng.out.2.2)
          have hdc : (∀ k, fa2 k → ¬ fc2 k) ∧ (∀ k, fb2 k → ¬ fc2 k) := ⟨fun k h1 h2 => (hsc k h2).elim (fun h => HDa.out.2 k h1 h) (fun h => by have := HA3.out.lt h1; omega), fun k h1 h2 => (hsc k h2).elim (fun h => HDb.out.2 k h1 h) (fun h => by have := HB3.out.lt h1; omega)⟩
          have hngc : ¬ fc2 gb := fun h => (hsc gb h).elim hng.out.2.2 (fun h => by omega)
          have q1 := hS4.free x
          have q0 : w4.cell? ⟨gb, x, none⟩ = some (.int .i64 ((S x : Nat) : Int)) := (hS4.cell x).trans (scel_at S 13 x hx13)
          obtain ⟨w5, hw5⟩ : ∃ W, w4.setCell ⟨gb, x, none⟩ (.int .i64 1) = W := ⟨_, rfl⟩
          have ho5 : Off (fun k => k ≠ gb) w4 w5 := by rw [← hw5]; exact Off.setCell (fun h => h rfl) _
          have hS5 : Lies w5 gb 54 (scel (mark S x) 13) := by
            have h := hS4.put x (.int .i64 1)
            rw [show (Value.int .i64 1) = Value.int .i64 ((1 : Nat) : Int) from rfl, scel_set] at h
            rw [← hw5]
            exact h
          have hA5 : CacAt fa2 w5 (.pointer (some aa)) (holdR p (x : Int)).1 La := by rw [← hw5]; exact hA4.far hnga _
          have hBb5 : CacAt fb2 w5 (.pointer (some ab)) (holdR p (x : Int)).1 Lb := by rw [← hw5]; exact hBb4.far hngb _
          have hC5 : CacAt fc2 w5 (.pointer (some ac)) (holdR q (x : Int)).1 Lc := by rw [← hw5]; exact hC4.far hngc _
          have hB5 : Below w.heap.size w w5 := by rw [← hw5]; exact hB4.setCell hgb _
          obtain ⟨Xa, ca, rfl, hcva⟩ := hua4.off ho5 (fun k h1 _ h2 => by omega)
          obtain ⟨Xb, cb, rfl, hcvb⟩ := hub4.off ho5 (fun k h1 _ h2 => by omega)
          have hca := conv_bytes Xa (if (holdR p (x : Int)).2.2 = 0 then 256 else 0) ca (fun k => imageOf La (264 * (x : Int).toNat + k)) w5 (fun k hk => (hcva k hk).elim fun ad h => ⟨ad, h.1, h.2.2.2⟩)
          have hcb := conv_bytes Xb (if (holdR p (x : Int)).2.2 = 0 then 256 else 0) cb (fun k => imageOf Lb (264 * (x : Int).toNat + k)) w5 (fun k hk => (hcvb k hk).elim fun ad h => ⟨ad, h.1, h.2.2.2⟩)
          have hstr : bstr (fun k => imageOf La (264 * (x : Int).toNat + k)) (if (holdR p (x : Int)).2.2 = 0 then 256 else 0) = bstr (fun k => imageOf Lb (264 * (x : Int).toNat + k)) (if (holdR p (x : Int)).2.2 = 0 then 256 else 0) := bstr_congr fun k hk => by
            rw [Int.toNat_natCast]
            exact HV.out x hx13 k (by split at hk <;> omega)
          rw [hstr] at hca
          generalize bstr (fun k => imageOf Lb (264 * (x : Int).toNat + k)) (if (holdR p (x : Int)).2.2 = 0 then 256 else 0) = st at hca hcb
          generalize (if (holdR p (x : Int)).2.2 = 0 then 256 else 0) = len at hca hcb ⊢
          generalize (holdR p (x : Int)).2.1 = bt
          generalize (holdR p (x : Int)).2.2 = er
          have HSt1 := Lib.hid (atStats hA5)
          have HD1 := Lib.hid (atDrop hA5 HCalm2.out (x : Int))
          have HW5 := Lib.hid hw5
          have HA5 := Lib.hid hA5
          have HB5 := Lib.hid hBb5
          have HC5 := Lib.hid hC5
          have HS5 := Lib.hid hS5
          have HDc := Lib.hid hdc
          have HLc2 := Lib.hid hlc2
          clear hstr hA4 hBb4 hC4 hS4 hdc hlc2 hsc hoc hb4 H3 HA3 HB3 HC3 HS3 HUa3 HUb3 hA5 hBb5 hC5 hS5 hcva hcvb ho5
          unfold statsV at HSt1
          go_wp2_with fail
          refine HSt1.out.mono ?_
          rintro e w6 ⟨rfl, hb6⟩
          have HSt2 := Lib.hid (atStats (HB5.out.keep hb6))
          unfold statsV at HSt2
          have hB6 := hB5.trans (hb6.mono hB5.size)
          go_wp2_with fail
          refine HSt2.out.mono ?_
          rintro e w7 ⟨rfl, hb7⟩
          have hB7 := hB6.trans (hb7.mono hB6.size)
          have hs67 := hb6.size
          have HA7 := Lib.hid ((HA5.out.keep hb6).keep hb7)
          have HB7 := Lib.hid ((HB5.out.keep hb6).keep hb7)
          have HC7 := Lib.hid ((HC5.out.keep hb6).keep hb7)
          have HS7 := Lib.hid ((HS5.out.below hb6 HS5.out.lt).below hb7 (Nat.lt_of_lt_of_le HS5.out.lt hs67))
          clear HSt1 HSt2 HD1 HA5 HB5 HC5 HS5 hb6 hb7 hw5 hca hcb q0 q1 hB5 hB6 hB4 hB3 hB2
          go_upto_region 17 with (fail)
          go_cut [100] (fun s100 wx => s100 = .bool false ∧ ∃ p', Hid (Upto p' (i + 1) ∧ p'.n = 13) ∧ Hid (CacAt fa2 wx (.pointer (some aa)) p' La) ∧ Hid (CacAt fb2 wx (.pointer (some ab)) p' Lb) ∧ Hid (CacAt fc2 wx (.pointer (some ac)) (holdR q (x : Int)).1 Lc) ∧ Hid (Lies wx gb 54 (scel (mark S x) 13)) ∧ Below w.heap.size w wx)
          case first =>
            have HD1 := Lib.hid (atDrop HA7.out HCalm2.out (x : Int))
            go_wp2_with fail
            all_goals first
              | (go_meet
                 exact ⟨rfl, _, HUp2, HA7, HB7, HC7, HS7, hB7⟩)
              | skip
            refine HD1.out.mono ?_
            rintro e w8 ⟨rfl, hA8, ho8⟩
            have hB8 := HB7.out.aside ho8 (fun k h1 h2 => HDb.out.1 k h2 h1)
            have HD2 := Lib.hid (atDrop hB8 HCalm2.out (x : Int))
            have HB8 := Lib.hid hB8
            have HC8 := Lib.hid (HC7.out.aside ho8 (fun k h1 h2 => HDc.out.1 k h2 h1))
            have HS8 : Hid (Lies w8 gb 54 (scel (mark S x) 13)) := Lib.hid (HS7.out.same (ho8.block gb HS7.out.lt hnga))
            have hBl8 := hB7.trans (ho8.below hB7.size HLa2.out)
            have HA8 := Lib.hid hA8
            clear hA8 hB8 HD1 ho8
            generalize (dropR (holdR p (x : Int)).1 (x : Int)).2 = db at HD2 ⊢
            go_wp2_with fail
            refine HD2.out.mono ?_
            rintro e w9 ⟨rfl, hB9, ho9⟩
            have HA9 := Lib.hid (HA8.out.aside ho9 (fun k h1 h2 => HDb.out.1 k h1 h2))
            have HC9 := Lib.hid (HC8.out.aside ho9 (fun k h1 h2 => HDc.out.2 k h2 h1))
            have HS9 : Hid (Lies w9 gb 54 (scel (mark S x) 13)) := Lib.hid (HS8.out.same (ho9.block gb HS8.out.lt hngb))
            have hBl9 := hBl8.trans (ho9.below hBl8.size HLb2.out)
            have HB9 := Lib.hid hB9
            have HUp9 : Hid (Upto (dropR (holdR p (x : Int)).1 (x : Int)).1 (i + 1) ∧ (dropR (holdR p (x : Int)).1 (x : Int)).1.n = 13) := Lib.hid ⟨HUp2.out.1.drop _, by rw [(dropR_rest _ _).1]; exact HUp2.out.2⟩
            clear hB9 HD2 ho9
            go_wp2_with fail
            go_meet
            exact ⟨rfl, _, HUp9, HA9, HB9, HC9, HS9, hBl9⟩
          case rest =>
            obtain ⟨rfl, p', hup', hA', hBc', hC', hS', hBw⟩ := hcut
            rename World => wq
            have HRg : Hid (wq.rangeAt gb 0 (scel (mark S x) 13)) := Lib.hid fun j v hj => by
              rw [Nat.zero_add, hS'.out.cell]
              exact hj
            clear HUp2 HA7 HB7 HC7 HS7 hB7
            go_wp2_with (refine wpList_load_mid rfl 54 (.tmp 9) rfl gb 0 rfl (scel (mark S x) 13) _ HRg.out Tryd.underlying54 rfl (by rw [scel_length]; exact size13) ?_)
            go_loopw [102] (fun v wy => ∃ j : Nat, j ≤ 13 ∧ v = .int .i64 (j : Int) ∧ Below wq.heap.size wq wy) (fun v _ => 13 - (intOf v).toNat)
            case atStart => exact ⟨0, Nat.zero_le _, rfl, Below.refl _ _⟩
            case round =>
              rename World => wy
              obtain ⟨j, hj13, rfl, hby⟩ := hrel
              by_cases hjl : j < 13
              · have hji : (j : Int) < 13 := by omega
                obtain ⟨y, hy⟩ : ∃ y, mark S x j = y := ⟨_, rfl⟩
                have hat := idx13 (mark S x) j hjl
                rw [hy] at hat
                have hy1 : y ≤ 1 := by rw [← hy]; exact mark_bit hbit.out x j
                have HHas := Lib.hid (atHas (hC'.out.keep hby) (j : Int))
                by_cases hy0 : y = 1
                · subst hy0
                  have hh : hasR (holdR q (x : Int)).1 (j : Int) = true := by
                    unfold hasR
                    rw [HSe2.out.there j (by rw [hy]; decide)]
                    simp
                  rw [hh] at HHas
                  clear hh hy
                  go_wp2_with fail
                  refine HHas.out.mono ?_
                  rintro e w8 ⟨rfl, hb8⟩
                  have hby8 := hby.trans (hb8.mono hby.size)
                  clear hb8 HHas
                  go_wp2_with fail
                  go_roundw
                  case rel => exact ⟨j + 1, by omega, by go_num, hby8⟩
                  case measure => simp [intOf]; omega
                · have hyz : ((y : Int) == 1) = false := by rw [beq_eq_false_iff_ne]; omega
                  clear hy
                  go_wp2_with fail
                  go_roundw
                  case rel => exact ⟨j + 1, by omega, by go_num, hby⟩
                  case measure => simp [intOf]; omega
              · obtain rfl : j = 13 := by omega
                have hBy := hBw.trans (hby.mono hBw.size)
                have HAy := Lib.hid (hA'.out.keep hby)
                have HBy := Lib.hid (hBc'.out.keep hby)
                have HCy := Lib.hid (hC'.out.keep hby)
                have HSy := Lib.hid (hS'.out.below hby hS'.out.lt)
                have hbit' := mark_bit hbit.out x
                go_wp2_with fail
                go_roundw
                case rel => exact ⟨i + 1, p', _, fa2, fb2, fc2, mark S x, by omega, by omega, by go_num, hup', HSe2, HAy, HBy, HCy, Lib.hid ⟨HDb.out.1, HDc.out.1, HDc.out.2⟩, Lib.hid ⟨HLa2.out, HLb2.out, HLc2.out⟩, Lib.hid ⟨hnga, hngb, hngc⟩, HSy, Lib.hid hbit', hBy⟩
                case measure => simp [intOf]; omega
        · go_wp2_with fail
          go_meet
          exact hB
      · go_wp2_with fail
        go_meet
        exact hB
  case rest =>
    go_wp2_with fail
    go_ret
    exact ⟨rfl, hcut⟩

theorem own : ownKnob Tryd.prog.godebug = none := by kernel_rfl
theorem laidOut : laidOutB Tryd.prog = true := by kernel_rfl

set_option maxRecDepth 100000 in
theorem lifted (os : Os) (started : os.Started) (H : Type) (enc : TypeId × Value → H) :
    ReturnsInHanded {} Tryd.checked os 6 .any (fun w args => (Rows.cacheSameSpec.pre enc Tryd.prog Tryd.f6 [] false w args ∧ laidMetH Tryd.prog laidL w) ∧ sizedMet enc Tryd.prog Tryd.f6 (OpenSpec.ofChange Rows.cacheSameSpec) false w args)
      (Rows.cacheSameSpec.post enc Tryd.prog Tryd.f6 false true false false) := by
  refine returnsInHanded_of_change_and (C := Tryd.checked) (X := fun w _ => laidMetH Tryd.prog laidL w) (fun _ _ _ hh h => h.of_heap hh) own started (by kernel_rfl) Tryd.func6
    (ChangeSpec.witness_shaped (enc := enc) (C := Tryd.checked) (os := os) (X := fun w _ => laidMetH Tryd.prog laidL w) false (World.doorLaid Tryd.prog 400 os) #[.int .i64 0, .slice none 0 0] 8 rfl (World.shaped_of_RefB (by kernel_rfl) (by kernel_rfl)) (by kernel_rfl) (by kernel_rfl) (by kernel_rfl) (door_met os _)) ?_
  intro W base args ds gs before hval0 hW _ _ hL _
  have hval : ∀ (j : Nat) t v, Tryd.f6.params[j]? = some t → args[j]? = some v → Value.okWide Tryd.prog W .any base t v := hval0
  have hW' := hW
  obtain ⟨p, q, hA0, hV, rfl, hfz, hnd⟩ := hW
  have hA : DataW.TrodAll enc Tryd.prog W 0 (fun _ => true) true Tryd.f6.params.toList args.toList ds p := hA0
  rw [Tryd.params6] at hA hval
  obtain ⟨v0, v1, d0, d1, p0, p1, rfl, rfl, rfl, h0, h1⟩ := trodAll_two hA
  obtain ⟨rfl, rfl⟩ := trodVars_none hV
  obtain ⟨a0, rfl, rfl, rfl, wa0⟩ := open_int Tryd.underlying3 (hval 0 3 v0 rfl rfl) h0
  obtain ⟨A1, n1, c1, V1, rfl, hn1, hz1, ho1⟩ := open_list (hval 1 47 v1 rfl rfl) h1
  clear hA0 hval0
  refine (walk a0 A1 n1 c1 V1 W wa0 hn1 hz1 ho1 (tabs_of_laid hL)).mono fun e W' ⟨he, hg⟩ => ?_
  subst he
  exact ⟨_, rfl, law_post laidOut rfl rfl rfl (by rw [Tryd.params6]; decide +kernel) hW' hg⟩

/-- The row. -/
theorem holds : Rows.CacheSameSaid :=
  OpenClaim.holds_of_wide 6 Tryd.f6 rfl rfl rfl rfl rfl rfl rfl ⟨rfl, rfl, rfl, rfl, rfl⟩ rfl rfl rfl rfl rfl (by kernel_rfl) Tryd.func6 (by kernel_rfl)
    (of_decide_eq_true (by kernel_rfl)) (by unfold Func.isWrapper; first | (rw [if_pos (by decide +kernel)]; kernel_rfl) | (rw [if_neg (by decide +kernel)]; exact ⟨rfl, rfl⟩))
    (fun os started H enc _ => lifted os started H enc)
/-- The statement: the row's card. -/
theorem proved : Rows.CacheSameCardSaid :=
  Claim7.holds_tied_plain_at .later [] Rows.cacheSameCard.laidKinds Rows.cacheSameCard.laidTests Rows.cacheSameCard.stood.harness Rows.cacheSameCard.stood.looks
    holds (fun _ h => by cases h) (by kernel_rfl) (fun _ h => by cases h) cacheSame_row_tie rfl ⟨rfl, rfl⟩ (by kernel_rfl) rfl
    (fun f fn hf hfn => by
      obtain rfl : f = 6 := Option.some.inj ((show Tryd.prog.funcNamed "colophon/colophonlaw07.CacheSame" = some 6 by kernel_rfl).symm.trans hf) |>.symm
      obtain rfl : fn = Tryd.f6 := (Option.some.inj (Tryd.func6.symm.trans hfn)).symm
      exact ⟨by kernel_rfl, fun j t ht => by
        have hm : t ∈ Tryd.f6.params.toList := by simpa using Array.mem_of_getElem? ht
        have hall : (Tryd.f6.params.toList.all fun u => !Tryd.prog.wantsStandIn u) = true := by kernel_rfl
        exact (show Tryd.prog.wantsStandIn t = false by simpa using List.all_eq_true.1 hall t hm)⟩)
    (by kernel_rfl)
#print axioms proved
end Go.Proofs.YtjmajminfmcjcaaDoor.cacheSame
