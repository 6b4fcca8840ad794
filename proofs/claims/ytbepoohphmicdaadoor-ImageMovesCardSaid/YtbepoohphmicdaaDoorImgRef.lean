/- The contract of the document's Build for layer 6: an image of sections. -/
import Derived.Test.YtbepoohphmicdaaDoorSecs
import Derived.Test.YtbepoohphmicdaaDoorPageRef
import Derived.Laws.OwnMore
namespace Go.Proofs.YtbepoohphmicdaaDoor
open Go.RowKit

/-- sections out of memory. -/
def secsP (L : List Part) : List Sec := L.map Part.sec
theorem secsP_length (L : List Part) : (secsP L).length = L.length := by unfold secsP; simp
theorem secsP_at {L : List Part} {i : Nat} {p : Part} (h : L[i]? = some p) : (secsP L)[i]? = some p.sec := by unfold secsP; rw [List.getElem?_map, h]; rfl
theorem Secs.bytes {w : World} {B : Nat} {P : Option Addr} {L : List Part} (h : Secs w B P L) : ∀ s ∈ secsP L, ∀ k, k < s.n → s.V k < 256 := fun s hs k hk => by
  unfold secsP at hs
  obtain ⟨p, hp, rfl⟩ := List.mem_map.1 hs
  obtain ⟨i, hi, rfl⟩ := List.getElem_of_mem hp
  obtain ⟨_, _, _, _, _, _, _, hb⟩ := h i _ (List.getElem?_eq_getElem hi)
  exact (hb k hk).elim fun _ h => h.2.2.2
/-- what Build leaves. -/
def BuildPost (w : World) (L : List Part) (e : Ending) (w' : World) : Prop :=
  (60 < L.length → e = .returned (.tuple #[.slice none 0 0, .int .i64 80])) ∧
  (L.length ≤ 60 → 4096 < allPages (secsP L) → e = .returned (.tuple #[.slice none 0 0, .int .i64 80])) ∧
  (L.length ≤ 60 → allPages (secsP L) ≤ 4096 → ∃ v, e = .returned (.tuple #[v, .int .i64 0]) ∧ w'.ownsRow w.heap.size 5 1 v (264 * allPages (secsP L)) (ycells (imageOf (secsP L)) (264 * allPages (secsP L)))) ∧ Below w.heap.size w w'
theorem pgs_split (n : Nat) : pgs n = n / 256 + (if 0 < n % 256 then 1 else 0) := by
  unfold pgs
  split <;> omega
theorem startAt_le (L : List Sec) (i : Nat) (hi : i ≤ L.length) : startAt L i ≤ allPages L := by
  by_cases h : i = L.length
  · subst h; exact Nat.le_refl _
  · obtain ⟨x, hx⟩ : ∃ x, L[i]? = some x := ⟨_, List.getElem?_eq_getElem (by omega)⟩
    have := ahead_le L i x hx
    unfold allPages startAt
    omega
/-- the head's first six bytes. -/
theorem head_six (S : List Sec) : ([.int .u8 99, .int .u8 111, .int .u8 108, .int .u8 111, .int .u8 ((S.length : Nat) : Int), .int .u8 0] : List Value) = ycells (headV S) 6 := rfl
theorem head_next (S : List Sec) (i b n : Nat) (hn : lenAt S i = n) (hb : b < 4) : ycells (headV S) (6 + 4 * i + b) ++ [.int .u8 ((n / 256 ^ b % 256 : Nat) : Int)] = ycells (headV S) (6 + 4 * i + (b + 1)) := by
  rw [← Nat.add_assoc, ycells_snoc, headV_len S i b hb, hn]
  rfl

theorem img_head (S : List Sec) (k : Nat) (h : S.length = k) : ycells (pageOf (headV S) (6 + 4 * k) 0) 264 = ycells (imageOf S) 264 := ycells_congr fun j hj => by
  have e := image_at S 0 j (headOf S) (body_head S) hj
  rw [Nat.mul_zero, Nat.zero_add] at e
  rw [e, ← h]
  rfl
theorem img_next (S : List Sec) (p : Nat) (c : Sec) (h : (body S)[p]? = some c) : ycells (imageOf S) (264 * p) ++ ycells (pageOf c.V c.n p) 264 = ycells (imageOf S) (264 * p + 264) := by
  rw [ycells_both]
  refine ycells_congr fun k hk => ?_
  unfold both
  split
  · rfl
  · have e := image_at S p (k - 264 * p) c h (by omega)
    rw [show 264 * p + (k - 264 * p) = k by omega] at e
    exact e.symm

theorem Bys.cut_ {w : World} {B n m e : Nat} {ad : Addr} {V : Nat → Nat} (h : Bys w B (some ad) n V) (he : m + e ≤ n) : Bys w B (some (ad.add m)) e (fun k => V (m + k)) := fun k hk => by
  obtain ⟨ad', e1, hb, hc, hv⟩ := h (m + k) (by omega)
  cases e1
  refine ⟨ad.add m, rfl, by rw [add_block]; exact hb, ?_, hv⟩
  rw [Addr.add_add]
  exact hc

set_option maxRecDepth 100000 in
set_option maxHeartbeats 3200000 in
theorem refBuild_few (P : Option Addr) (c : Nat) (L : List Part) (w : World) (hL : L.length ≤ 60) (ho : Secs w w.heap.size P L) :
    Calls Tryd.prog 11 #[.slice P L.length c] w (BuildPost w L) := by
  have HO := Lib.hid ho
  have HSB := Lib.hid ho.bytes
  clear ho
  obtain ⟨S, hS⟩ : ∃ S, secsP L = S := ⟨_, rfl⟩
  have HS := Lib.hid hS
  obtain ⟨k, hk⟩ : ∃ k, L.length = k := ⟨_, rfl⟩
  have HK := Lib.hid hk
  have HSk := Lib.hid (show S.length = k by rw [← hS, secsP_length]; exact hk)
  rw [hk] at hL ⊢
  have hd : decide ((60 : Int) < (k : Int)) = false := by simp; omega
  have hk8 : (k : Int) % 256 = (k : Int) := by omega
  have HW := Lib.hid (World.ownsRow_lit (base := w.heap.size) (e := 5) (size := 1) w #[.int .u8 99, .int .u8 111, .int .u8 108, .int .u8 111, .int .u8 (k : Int), .int .u8 0] 6 (Nat.le_refl _) (by unfold maxLen; omega) rfl)
  have hb0 : Below w.heap.size w (w.alloc (.cells #[.int .u8 99, .int .u8 111, .int .u8 108, .int .u8 111, .int .u8 (k : Int), .int .u8 0] 5)) := (Below.refl _ _).alloc (Nat.le_refl _) _
  clear hk hS
  go_enter Tryd.func11, Tryd.ntmps11
  go_wp2_with fail
  go_loopw [4, 5, 7, 8, 9, 27] (fun h n _ _ _ v wr => ∃ i t : Nat, i ≤ k ∧ v = .int .i64 (i : Int) ∧ n = .int .i64 (t : Int) ∧ Hid (t = startAt S i) ∧ t ≤ 4096 ∧ Hid (wr.ownsRow w.heap.size 5 1 h (6 + 4 * i) (ycells (headV S) (6 + 4 * i))) ∧ Below w.heap.size w wr) (fun _ _ _ _ _ v _ => k - (intOf v).toNat)
  case atStart =>
    refine ⟨0, 1, Nat.zero_le _, rfl, rfl, Lib.hid rfl, by decide, Lib.hid ?_, hb0⟩
    have e6 : ([.int .u8 99, .int .u8 111, .int .u8 108, .int .u8 111, .int .u8 (k : Int), .int .u8 0] : List Value) = ycells (headV S) 6 := by rw [← HSk.out]; exact head_six S
    rw [Nat.mul_zero, Nat.add_zero, ← e6]
    exact HW.out
  case round =>
    obtain ⟨i, t, hi, rfl, rfl, hts, ht, hrow, hb⟩ := hrel
    have hbs := hb.size
    obtain ⟨gh, ch, rfl⟩ := Joins.ownsRow_form hrow.out (by omega)
    by_cases hlt : i < k
    · obtain ⟨p, hp⟩ : ∃ p, L[i]? = some p := ⟨_, List.getElem?_eq_getElem (by rw [HK.out]; exact hlt)⟩
      obtain ⟨ad, rfl, hbl, hc, hnc, hcm, _, _⟩ := (HO.out.below hb) i p hp
      have hpn : p.n ≤ 9223372036854775807 := by unfold maxLen at hcm; omega
      have hln := lenAt_at (secsP_at hp)
      rw [HS.out] at hln
      have HLN := Lib.hid hln
      have hst := startAt_succ S i p.sec (by rw [← HS.out]; exact secsP_at hp)
      have HST := Lib.hid (show startAt S (i + 1) = t + pgs p.n by rw [hst, hts.out]; rfl)
      have hall := startAt_le S (i + 1) (by rw [HSk.out]; omega)
      have HAL := Lib.hid hall
      clear hp hcm hln hst hall
      obtain ⟨A, n, cc, V⟩ := p
      have hlti : (i : Int) < (k : Int) := by omega
      have HP := Lib.hid (pgs_split n)
      go_wp2_with fail
      go_loopw [4, 8, 9] (fun h q v wq => ∃ b : Nat, b ≤ 4 ∧ v = .int .i64 (b : Int) ∧ q = .int .i64 ((n / 256 ^ b : Nat) : Int) ∧ Hid (wq.ownsRow w.heap.size 5 1 h (6 + 4 * i + b) (ycells (headV S) (6 + 4 * i + b))) ∧ Below w.heap.size w wq) (fun _ _ v _ => 4 - (intOf v).toNat)
      case atStart => exact ⟨0, by decide, rfl, by simp, hrow, hb⟩
      case round =>
        obtain ⟨b, hb4, rfl, rfl, hrow2, hb2⟩ := hrel
        have hbs2 := hb2.size
        by_cases hlt4 : b < 4
        · have hb4i : (b : Int) < 4 := by omega
          have HNX := Lib.hid (head_next S i b n HLN.out hlt4)
          have HQ := Lib.hid (show n / 256 ^ (b + 1) = n / 256 ^ b / 256 by rw [Nat.pow_succ, Nat.div_div_eq_div_mul])
          have hql : n / 256 ^ b ≤ 9223372036854775807 := Nat.le_trans (Nat.div_le_self _ _) hpn
          generalize n / 256 ^ b = q at hql HQ HNX ⊢
          have hq1 := tmod_nat q 256
          have hq2 := tdiv_nat q 256
          go_wp2_with (at_builtin; refine step_append_byte rfl (.tmp 37) (.tmp 41) rfl rfl hrow2.out _ rfl hbs2 (by omega) ?_; intro v5 w5 hown5 hb5)
          go_roundw
          case rel =>
            refine ⟨b + 1, by omega, by go_num, by rw [HQ.out]; rfl, Lib.hid ?_, hb2.trans hb5⟩
            rw [← HNX.out]
            exact hown5.out
          case measure => simp [intOf]; omega
        · obtain rfl : b = 4 := by omega
          obtain ⟨d, hdd⟩ : ∃ d, n / 256 = d := ⟨_, rfl⟩
          obtain ⟨r, hrr⟩ : ∃ r, n % 256 = r := ⟨_, rfl⟩
          have hlen : (n : Int) / 256 = (d : Int) := by omega
          have hmod : (n : Int) % 256 = (r : Int) := by omega
          have hp1 := HP.out
          rw [hdd, hrr] at hp1
          obtain ⟨t1, ht1⟩ : ∃ t1, t + d = t1 := ⟨_, rfl⟩
          have e1 : IntKind.i64.wrap ((t : Int) + (d : Int)) = (t1 : Int) := by rw [IntWalk.i64_in _ (by omega)]; omega
          by_cases hm : 0 < r
          · rw [if_pos hm] at hp1
            have e2 : decide ((0 : Int) < (r : Int)) = true := by simp; omega
            obtain ⟨t2, ht2⟩ : ∃ t2, t1 + 1 = t2 := ⟨_, rfl⟩
            have e3 : IntKind.i64.wrap ((t1 : Int) + 1) = (t2 : Int) := by rw [IntWalk.i64_in _ (by omega)]; omega
            have HE := Lib.hid (show t2 = startAt S (i + 1) by rw [HST.out]; omega)
            clear hp1 ht1 ht2 hdd hrr
            by_cases hbig : 4096 < t2
            · have e4 : decide ((4096 : Int) < (t2 : Int)) = true := by simp; omega
              go_wp2_with fail
              go_ret2
              exact ⟨fun h => absurd h (by rw [HK.out]; omega), fun _ _ => rfl, fun _ h => absurd h (by rw [HS.out]; have := HE.out; have := HAL.out; omega), hb2⟩
            · have e4 : decide ((4096 : Int) < (t2 : Int)) = false := by simp; omega
              go_wp2_with fail
              go_roundw
              case rel => exact ⟨i + 1, t2, by omega, by go_num, rfl, HE, by omega, hrow2, hb2⟩
              case measure => simp [intOf]; omega
          · rw [if_neg hm] at hp1
            have e2 : decide ((0 : Int) < (r : Int)) = false := by simp; omega
            have HE := Lib.hid (show t1 = startAt S (i + 1) by rw [HST.out]; omega)
            clear hp1 ht1 hdd hrr
            by_cases hbig : 4096 < t1
            · have e4 : decide ((4096 : Int) < (t1 : Int)) = true := by simp; omega
              go_wp2_with fail
              go_ret2
              exact ⟨fun h => absurd h (by rw [HK.out]; omega), fun _ _ => rfl, fun _ h => absurd h (by rw [HS.out]; have := HE.out; have := HAL.out; omega), hb2⟩
            · have e4 : decide ((4096 : Int) < (t1 : Int)) = false := by simp; omega
              go_wp2_with fail
              go_roundw
              case rel => exact ⟨i + 1, t1, by omega, by go_num, rfl, HE, by omega, hrow2, hb2⟩
              case measure => simp [intOf]; omega
    · obtain rfl : k = i := by omega
      have hHl := headV_lt S (by rw [HSk.out]; exact hL)
      obtain ⟨Y, cy, hY, hYA, hYc, hYo⟩ := row_bys hrow.out (fun x _ => hHl x)
      cases hY
      have HPut := Lib.hid (refPagePut_good (some ⟨gh, 0, none⟩) (6 + 4 * k) ch (headV S) 0 wr (by decide) (by omega) hYA hYo)
      have hall : t = allPages S := by rw [hts.out, ← HSk.out]; rfl
      have HAll := Lib.hid hall
      clear hHl hYA hYo hYc hrow hall hts
      go_wp2_with fail
      refine HPut.out.mono ?_
      rintro e w1 ⟨o, rfl, ho1, hb1⟩
      have hB1 := hb.trans (hb1.mono hb.size)
      rw [img_head S k HSk.out] at ho1
      have HO1 := Lib.hid (ownsRow_lower ho1 hb.size)
      clear HPut ho1 hb1 hb
      go_wp2_with fail
      go_loopw [10, 12, 66] (fun o a v wr => ∃ i f : Nat, i ≤ k ∧ v = .int .i64 (i : Int) ∧ a = .int .i64 (f : Int) ∧ Hid (f = startAt S i) ∧ f ≤ 4096 ∧ Hid (wr.ownsRow w.heap.size 5 1 o (264 * f) (ycells (imageOf S) (264 * f))) ∧ Below w.heap.size w wr) (fun _ _ v _ => k - (intOf v).toNat)
      case atStart => exact ⟨0, 1, Nat.zero_le _, rfl, rfl, Lib.hid rfl, by decide, HO1, hB1⟩
      case round =>
        clear HO1 hB1
        obtain ⟨i, f, hi, rfl, rfl, hfs, hf, hrow, hb⟩ := hrel
        by_cases hlt : i < k
        · obtain ⟨p, hp⟩ : ∃ p, L[i]? = some p := ⟨_, List.getElem?_eq_getElem (by rw [HK.out]; exact hlt)⟩
          obtain ⟨ad, rfl, hbl, hc, hnc, hcm, hpA, hpB⟩ := (HO.out.below hb) i p hp
          have hSp : S[i]? = some p.sec := by rw [← HS.out]; exact secsP_at hp
          have hst := startAt_succ S i p.sec hSp
          have HST := Lib.hid (show startAt S (i + 1) = f + pgs p.n by rw [hst, hfs.out]; rfl)
          have hall := startAt_le S (i + 1) (by rw [HSk.out]; omega)
          have hfp : f + pgs p.n ≤ 4096 := by have := HST.out; have := HAll.out; omega
          have HBd := Lib.hid (fun j (hj : j < pgs p.n) => by have h := body_at S i p.sec j hSp hj; rw [← hfs.out] at h; exact h)
          have HPB := Lib.hid (show ∀ W, Below w.heap.size w W → Bys W w.heap.size p.A p.n p.V from fun W hW => by
            obtain ⟨_, _, _, _, _, _, _, h⟩ := (HO.out.below hW) i p hp
            exact h)
          have HPA := Lib.hid hpA
          clear hp hcm hst hall hSp hpB hpA
          obtain ⟨A, n, cc, V⟩ := p
          have hpr := pgs_room n
          have hlti : (i : Int) < (k : Int) := by omega
          go_wp2_with fail
          go_loopw [10, 12, 15] (fun o a q wq => ∃ j m g : Nat, j ≤ pgs n ∧ q = .int .i64 (m : Int) ∧ m = 256 * j ∧ a = .int .i64 (g : Int) ∧ g = f + j ∧ Hid (wq.ownsRow w.heap.size 5 1 o (264 * g) (ycells (imageOf S) (264 * g))) ∧ Below w.heap.size w wq) (fun _ _ q _ => n + 256 - (intOf q).toNat)
          case atStart => exact ⟨0, 0, f, Nat.zero_le _, rfl, rfl, rfl, rfl, hrow, hb⟩
          case round =>
            obtain ⟨j, m, g, hj, rfl, hm, rfl, hg, hrow2, hb2⟩ := hrel
            have hbs2 := hb2.size
            have HM := Lib.hid hm
            have HGj := Lib.hid hg
            by_cases hjp : j < pgs n
            · have hmn : m < n := by
                unfold pgs at hjp
                omega
              have HBj := HBd.out j hjp
              obtain ⟨ad2, rfl⟩ : ∃ ad2, A = some ad2 := by
                rcases A with _ | ad2
                · have h : n = 0 ∧ cc = 0 := HPA.out rfl
                  omega
                · exact ⟨ad2, rfl⟩
              have hmni : (m : Int) < (n : Int) := by omega
              have hg2 : g ≤ 4095 := by omega
              have hne : cc ≠ m := by
                have h : n ≤ cc := hnc
                omega
              obtain ⟨m2, hm2⟩ : ∃ m2, m + 256 = m2 := ⟨_, rfl⟩
              have e1 : IntKind.i64.wrap ((m : Int) + 256) = (m2 : Int) := by rw [IntWalk.i64_in _ (by omega)]; omega
              have HM2 := Lib.hid hm2
              have hmm2 : (m : Int) ≤ (m2 : Int) := by omega
              have hV8 : ∀ x, x < n → V x < 256 := fun x hx => (HPB.out wr hb2 x hx).elim fun _ h => h.2.2.2
              have HPutE : ∀ e : Nat, e - m = min 256 (n - m) → Hid (Calls Tryd.prog 26 #[.int .i64 (g : Int), .slice (some (ad2.add m)) (e - m) (cc - m)] wr fun e' w' => ∃ v, e' = .returned (.tuple #[v, .int .i64 0]) ∧ w'.ownsRow wr.heap.size 5 1 v 264 (ycells (pageOf (Sec.part ⟨n, V⟩ j).V (Sec.part ⟨n, V⟩ j).n g) 264) ∧ Below wr.heap.size wr w') := fun e he => Lib.hid (by
                refine (refPagePut_good (some (ad2.add m)) (e - m) (cc - m) (fun x => V (m + x)) g wr hg2 (by omega) (fun h => (by cases h)) (Bys.cut_ ((HPB.out wr hb2).mono_ hbs2) (by omega))).mono ?_
                rintro e' w' ⟨v, h1, h2, h3⟩
                refine ⟨v, h1, ?_, h3⟩
                have e5 : (Sec.part ⟨n, V⟩ j).V = fun x => V (m + x) := by rw [hm]; rfl
                have e6 : (Sec.part ⟨n, V⟩ j).n = e - m := by rw [he, hm]; rfl
                rw [e5, e6]
                exact h2)
              have HN := Lib.hid (show ycells (imageOf S) (264 * g) ++ ycells (pageOf (Sec.part ⟨n, V⟩ j).V (Sec.part ⟨n, V⟩ j).n g) 264 = ycells (imageOf S) (264 * g + 264) from img_next S g _ (by rw [hg]; exact HBj))
              have HV8 := Lib.hid (fun x => pageOf_lt (t := g) (V := (Sec.part ⟨n, V⟩ j).V) (n := (Sec.part ⟨n, V⟩ j).n) (fun y (hy : y < min 256 (n - 256 * j)) => hV8 (256 * j + y) (by omega)) x)
              clear hm hg hm2 HBd hV8 HBj
              by_cases hmin : n < m2
              · have d1 : (n : Int) < (m2 : Int) := by omega
                have HPe := HPutE n (by have := HM2.out; omega)
                clear HPutE
                go_wp2_with fail
                refine HPe.out.mono ?_
                rintro e w5 ⟨q, rfl, hq, hb5⟩
                have hr5 := Lib.hid (ownsRow_keep hrow2.out hb5)
                have hB5 := hb2.trans (hb5.mono hb2.size)
                have hs5 := hB5.size
                obtain ⟨Y, cy, rfl, hYA, hYc, hYo⟩ := row_bys hq (fun x _ => HV8.out x)
                have HYA := Lib.hid hYA
                have HYo := Lib.hid hYo
                clear hq hb5 hYA hYo HPe
                go_wp2_with (at_builtin; refine step_append_bytes rfl (.tmp 89) (.tmp 90) rfl rfl hr5.out rfl HYA.out HYo.out hs5 (by omega) ?_; intro v6 w6 hown6 hb6)
                go_roundw
                case rel =>
                  refine ⟨j + 1, m2, g + 1, by omega, rfl, by have := HM2.out; have := HM.out; omega, by go_num, by have := HGj.out; omega, Lib.hid ?_, hB5.trans hb6⟩
                  have h := hown6.out
                  rw [HN.out] at h
                  exact h
                case measure => have := HM2.out; simp [intOf]; omega
              · have d1 : ¬ (n : Int) < (m2 : Int) := by omega
                have HPe := HPutE m2 (by have := HM2.out; omega)
                clear HPutE
                go_wp2_with fail
                refine HPe.out.mono ?_
                rintro e w5 ⟨q, rfl, hq, hb5⟩
                have hr5 := Lib.hid (ownsRow_keep hrow2.out hb5)
                have hB5 := hb2.trans (hb5.mono hb2.size)
                have hs5 := hB5.size
                obtain ⟨Y, cy, rfl, hYA, hYc, hYo⟩ := row_bys hq (fun x _ => HV8.out x)
                have HYA := Lib.hid hYA
                have HYo := Lib.hid hYo
                clear hq hb5 hYA hYo HPe
                go_wp2_with (at_builtin; refine step_append_bytes rfl (.tmp 89) (.tmp 90) rfl rfl hr5.out rfl HYA.out HYo.out hs5 (by omega) ?_; intro v6 w6 hown6 hb6)
                go_roundw
                case rel =>
                  refine ⟨j + 1, m2, g + 1, by omega, rfl, by have := HM2.out; have := HM.out; omega, by go_num, by have := HGj.out; omega, Lib.hid ?_, hB5.trans hb6⟩
                  have h := hown6.out
                  rw [HN.out] at h
                  exact h
                case measure => have := HM2.out; simp [intOf]; omega
            · obtain rfl : j = pgs n := by omega
              have hmn : ¬ (m : Int) < (n : Int) := by omega
              have HG2 := Lib.hid (show g = startAt S (i + 1) by rw [HST.out]; exact hg)
              have hg4 : g ≤ 4096 := by omega
              clear hm hg
              go_wp2_with fail
              go_roundw
              case rel => exact ⟨i + 1, g, by omega, by go_num, rfl, HG2, hg4, hrow2, hb2⟩
              case measure => simp [intOf]; omega
        · obtain rfl : k = i := by omega
          have hff : f = t := by rw [hfs.out, HAll.out, ← HSk.out]; rfl
          subst hff
          go_wp2_with fail
          go_ret2
          exact ⟨fun h => absurd h (by rw [HK.out]; omega), fun _ h => absurd h (by rw [HS.out, ← HAll.out]; omega), fun _ _ => ⟨_, rfl, by rw [HS.out, ← HAll.out]; exact hrow.out⟩, hb⟩

set_option maxRecDepth 100000 in
theorem refBuild_any (P : Option Addr) (c : Nat) (L : List Part) (w : World) (ho : Secs w w.heap.size P L) :
    Calls Tryd.prog 11 #[.slice P L.length c] w (BuildPost w L) := by
  by_cases h : L.length ≤ 60
  · exact refBuild_few P c L w h ho
  · obtain ⟨k, hk⟩ : ∃ k, L.length = k := ⟨_, rfl⟩
    have HK := Lib.hid hk
    rw [hk] at h ⊢
    have hd : decide ((60 : Int) < (k : Int)) = true := by simp; omega
    clear hk ho
    go_enter Tryd.func11, Tryd.ntmps11
    go_wp2_with fail
    go_ret2
    exact ⟨fun _ => rfl, fun h2 => absurd h2 (by rw [HK.out]; exact h), fun h2 => absurd h2 (by rw [HK.out]; exact h), Below.refl _ _⟩
end Go.Proofs.YtbepoohphmicdaaDoor
