/- The small functions of package image: numbers as bytes and back, the head's bytes, how many pages sections need. -/
import Derived.Test.YtjmajminfmcjcaaDoorImgOpen
import Derived.ArgAppend
namespace Go.Proofs.YtjmajminfmcjcaaDoor
open Go.RowKit

/-- bytes that an append may be made to: a row of the call's own, or a slice that is full. -/
def Grows (w : World) (B : Nat) (v : Value) (n : Nat) (V : Nat → Nat) : Prop :=
  w.ownsRow B 5 1 v n (ycells V n) ∨ ∃ g, v = .slice (some ⟨g, 0, none⟩) n n ∧ Bys w w.heap.size (some ⟨g, 0, none⟩) n V
theorem Grows.keep {w w' : World} {B : Nat} {v : Value} {n : Nat} {V : Nat → Nat} (h : Grows w B v n V) (hb : Below w.heap.size w w') : Grows w' B v n V := by
  rcases h with h | ⟨g, h1, h2⟩
  · exact .inl (ownsRow_keep h hb)
  · exact .inr ⟨g, h1, (h2.below hb).mono_ hb.size⟩
theorem Grows.cast {w : World} {B : Nat} {v : Value} {n : Nat} {V U : Nat → Nat} (h : Grows w B v n V) (hk : ∀ k, k < n → V k = U k) : Grows w B v n U := by
  rcases h with h | ⟨g, h1, h2⟩
  · exact .inl (by rw [← ycells_congr hk]; exact h)
  · exact .inr ⟨g, h1, fun k hkn => by
      obtain ⟨ad, e1, e2, e3, e4⟩ := h2 k hkn
      exact ⟨ad, e1, e2, by rw [← hk k hkn]; exact e3, by rw [← hk k hkn]; exact e4⟩⟩
theorem Grows.bys {w : World} {B : Nat} {v : Value} {n : Nat} {V : Nat → Nat} (h : Grows w B v n V) (hV : ∀ k, k < n → V k < 256) : ∃ (A : Option Addr) (c : Nat), v = .slice A n c ∧ (A = none → n = 0 ∧ c = 0) ∧ n ≤ c ∧ Bys w w.heap.size A n V := by
  rcases h with h | ⟨g, h1, h2⟩
  · exact row_bys h hV
  · exact ⟨_, n, h1, fun e => (by cases e), Nat.le_refl _, h2⟩

theorem step_grow_byte {ops : Array Oper} {rest : List Oper} {o : Oper} {a : Act} {Q : Exit → Act → World → Prop} (hgd : o.guard = none) (s x : Operand)
    (ho : o.op = .call { callee := .builtin .append, args := #[s, x], argTypes := #[31, 31] })
    {w : World} {B : Nat} {v : Value} {i : Nat} {V : Nat → Nat} (hs : a.eval s = v) (hg : Grows w B v i V) (y : Nat) (hx : a.eval x = .slice (some ⟨w.heap.size, 0, none⟩) 1 1) (hB : B ≤ w.heap.size) (hi : i ≤ 4194304)
    (h : ∀ v' w', Hid (w'.ownsRow B 5 1 v' (i + 1) (ycells V i ++ [.int .u8 (y : Int)])) → Below B w w' → wpList Tryd.prog ops Q rest (a.put o.dst v') w') :
    wpList Tryd.prog ops Q (o :: rest) a (w.alloc (.cells #[.int .u8 (y : Int)] 5)) := by
  rcases hg with hg | ⟨g, hv, hg⟩
  · exact step_append_byte hgd s x ho hs hg y hx hB hi h
  · subst hv
    obtain ⟨i0, hi0, hz0, hs0, hb0⟩ := info_parts info_u8
    have hl := lies_new w 5 [.int .u8 (y : Int)]
    have hb1 : Below w.heap.size w (w.alloc (.cells #[.int .u8 (y : Int)] 5)) := (Below.refl _ _).alloc (Nat.le_refl _) _
    refine wpList_append_grows _ hgd s x 31 ho 5 i0 (.int .u8 0) 1 1 Tryd.underlying31 hi0 hz0 hs0 hb0 rfl (by decide) (some ⟨g, 0, none⟩) i i (ycells V i) hs (fun e => (by cases e)) (by rw [ycells_length]; omega) (fun b hb j u hj => ?_)
      ⟨w.heap.size, 0, none⟩ 1 1 [.int .u8 (y : Int)] hx rfl (fun j u hj => by
        cases j with
        | zero => simp at hj; subst hj; exact hl.cell 0
        | succ j => simp at hj) (fun u hu => by simp at hu; subst hu; rfl) (by omega) (by unfold maxLen; omega) (by omega) (fun v' w' h2 h3 => ?_)
    · cases hb
      have hji : j < i := by
        have := (List.getElem?_eq_some_iff.1 hj).1
        rw [ycells_length] at this
        exact this
      rw [ycells_at V i j hji] at hj
      obtain ⟨ad, e, _, hc, _⟩ := (hg.below hb1) j hji
      cases e
      rw [← hj, ← hc]
    · exact h v' w' (Lib.hid (ownsRow_lower h2 (by rw [size_alloc]; omega))) (((Below.refl _ _).alloc hB _).grown h3 (by rw [size_alloc]; omega) (fun k hk => (by cases hk)))

set_option maxRecDepth 100000 in
set_option maxHeartbeats 800000 in
/-- image.laid. -/
theorem imgLaid_any (v : Value) (n : Nat) (V : Nat → Nat) (m s : Nat) (B : Nat) (w : World) (hm : m ≤ 4) (hn : n ≤ 4000000) (hB : B ≤ w.heap.size) (hg : Grows w B v n V) :
    Calls Tryd.prog 53 #[v, .int .i64 (m : Int), .int .i64 (s : Int)] w fun e w' => ∃ u, e = .returned u ∧ Grows w' B u (n + m) (both V (byteOf s) n) ∧ Below B w w' := by
  have HG := Lib.hid hg
  clear hg
  go_enter Tryd.func53, Tryd.ntmps53
  go_wp2_with fail
  go_loopw [0, 9] (fun u q wr => ∃ i : Nat, i ≤ m ∧ q = .int .i64 (i : Int) ∧ Hid (Grows wr B u (n + i) (both V (byteOf s) n)) ∧ Below B w wr) (fun _ q _ => m - (intOf q).toNat)
  case atStart =>
    refine ⟨0, Nat.zero_le _, rfl, Lib.hid (HG.out.cast fun k hk => ?_), Below.refl _ _⟩
    unfold both
    rw [if_pos (by omega)]
  case round =>
    obtain ⟨i, hi, rfl, H1, hb⟩ := hrel
    have hbs := hb.size
    by_cases hlt : i < m
    · have HB := Lib.hid (byte_num s i)
      have hi4 : (i : Int) < (m : Int) := by omega
      have e5 : IntKind.i64.wrap (8 * (i : Int)) = 8 * (i : Int) := IntWalk.i64_in _ (by omega)
      have e6 : 0 ≤ 8 * (i : Int) := by omega
      have e7 : (8 * (i : Int)).toNat = 8 * i := by omega
      have HS : Hid (ycells (both V (byteOf s) n) (n + i) ++ [.int .u8 ((byteOf s i : Nat) : Int)] = ycells (both V (byteOf s) n) (n + (i + 1))) := Lib.hid (by
        rw [← Nat.add_assoc, ycells_snoc]
        congr 3
        unfold both
        rw [if_neg (by omega), show n + i - n = i by omega])
      have hby := HB.out
      go_wp2_with (at_builtin; refine step_grow_byte rfl (.tmp 12) (.tmp 18) rfl rfl H1.out _ rfl (by omega) (by omega) ?_; intro v5 w5 hown5 hb5)
      go_roundw
      case rel =>
        refine ⟨i + 1, by omega, by go_num, Lib.hid (.inl ?_), hb.trans hb5⟩
        rw [← HS.out]
        exact hown5.out
      case measure => simp [intOf]; omega
    · obtain rfl : i = m := by omega
      go_wp2_with fail
      go_ret
      exact ⟨_, rfl, H1.out, hb⟩

/-- the number of the first i bytes. -/
def lowS (V : Nat → Nat) (i : Nat) : Nat := sofar (fun k => if k < 256 then 0 else V (k - 256)) i
theorem lowS_two (V : Nat → Nat) : lowS V 2 = V 0 + 256 * V 1 := by
  simp [lowS, sofar]
  omega
theorem lowS_four (V : Nat → Nat) : lowS V 4 = V 0 + 256 * V 1 + 65536 * V 2 + 16777216 * V 3 := by
  simp [lowS, sofar]
  omega
theorem lowS_next {V : Nat → Nat} {n : Nat} (hV : ∀ k, k < n → V k < 256) (i : Nat) (hn : n ≤ 4) (hi : i < n) : bits .or .u32 ((lowS V i : Nat) : Int) (((V i : Nat) : Int) * 2 ^ (8 * i) % 4294967296) = ((lowS V (i + 1) : Nat) : Int) := by
  have h : ∀ U : Nat → Nat, (∀ k, k < 260 → U k < 256) → (∀ k, k < n → V k = U (256 + k)) → bits .or .u32 ((lowS V i : Nat) : Int) (((V i : Nat) : Int) * 2 ^ (8 * i) % 4294967296) = ((lowS V (i + 1) : Nat) : Int) := fun U hU he => by
    have hs : ∀ j, j ≤ n → lowS V j = sofar U j := fun j => by
      induction j with
      | zero => intro _; rfl
      | succ j ih =>
        intro hj
        show lowS V j + (if 256 + j < 256 then 0 else V (256 + j - 256)) * 256 ^ j = sofar U j + U (256 + j) * 256 ^ j
        rw [ih (by omega), if_neg (by omega), show 256 + j - 256 = j by omega, he j (by omega)]
    rw [hs i (by omega), hs (i + 1) (by omega), he i hi]
    exact sofar_next hU i (by omega)
  refine h (fun k => if 256 ≤ k ∧ k < 256 + n then V (k - 256) else 0) (fun k _ => ?_) (fun k hk => ?_)
  · show (if 256 ≤ k ∧ k < 256 + n then V (k - 256) else 0) < 256
    split
    · exact hV _ (by omega)
    · decide
  · show V k = if 256 ≤ 256 + k ∧ 256 + k < 256 + n then V (256 + k - 256) else 0
    rw [if_pos (by omega), show 256 + k - 256 = k by omega]

set_option maxRecDepth 100000 in
set_option maxHeartbeats 800000 in
/-- image.number. -/
theorem imgNumber_any (A : Option Addr) (n c : Nat) (V : Nat → Nat) (B : Nat) (w : World) (hn : n ≤ 4) (ho : Bys w B A n V) :
    Calls Tryd.prog 52 #[.slice A n c] w fun e w' => e = .returned (.int .u32 ((lowS V n : Nat) : Int)) ∧ w = w' := by
  have HO := Lib.hid ho
  have HV := Lib.hid (show ∀ k, k < n → V k < 256 from fun k hk => (ho k hk).elim fun _ h => h.2.2.2)
  clear ho
  go_enter Tryd.func52, Tryd.ntmps52
  go_wp2_with fail
  go_loop [3, 8] (fun s v => ∃ i : Nat, i ≤ n ∧ v = .int .i64 (i : Int) ∧ s = .int .u32 ((lowS V i : Nat) : Int)) (fun _ v => n - (intOf v).toNat)
  case atStart => exact ⟨0, Nat.zero_le _, rfl, rfl⟩
  case round =>
    obtain ⟨i, hi, rfl, rfl⟩ := hrel
    by_cases hlt : i < n
    · obtain ⟨ad, rfl, hb, hc, h8⟩ := HO.out i hlt
      have HN := Lib.hid (lowS_next HV.out i hn hlt)
      have hy : ((V i : Nat) : Int) % 4294967296 = ((V i : Nat) : Int) := by omega
      have hi4 : (i : Int) < (n : Int) := by omega
      have e5 : IntKind.i64.wrap (8 * (i : Int)) = 8 * (i : Int) := IntWalk.i64_in _ (by omega)
      have e6 : 0 ≤ 8 * (i : Int) := by omega
      have e7 : (8 * (i : Int)).toNat = 8 * i := by omega
      go_wp2_with fail
      go_round
      case rel => exact ⟨i + 1, by omega, by go_num, by rw [HN.out]⟩
      case measure => simp [intOf]; omega
    · obtain rfl : i = n := by omega
      go_wp2_with fail
      go_ret
      exact ⟨rfl, rfl⟩

theorem many_nat (n : Nat) : manyOf (n : Int) = ((pgs n : Nat) : Int) := by
  unfold manyOf pgs
  split <;> omega
theorem pgs_most {n : Nat} (h : n ≤ 9223372036854775807) : pgs n ≤ 36028797018963968 := by unfold pgs; omega
theorem startAt_most (L : List Sec) (hL : ∀ x ∈ L, x.n ≤ 9223372036854775807) : ∀ i, i ≤ L.length → startAt L i ≤ 1 + 36028797018963968 * i
  | 0, _ => by unfold startAt; rw [ahead_zero]; omega
  | i + 1, h => by
    obtain ⟨x, hx⟩ : ∃ x, L[i]? = some x := ⟨_, List.getElem?_eq_getElem (by omega)⟩
    have h1 := startAt_most L hL i (by omega)
    have h2 := pgs_most (hL x (List.mem_of_getElem? hx))
    rw [startAt_succ L i x hx]
    omega
theorem Secs.most {w : World} {B : Nat} {P : Option Addr} {L : List Part} (h : Secs w B P L) : ∀ x ∈ secsP L, x.n ≤ 9223372036854775807 := fun s hs => by
  unfold secsP at hs
  obtain ⟨p, hp, rfl⟩ := List.mem_map.1 hs
  obtain ⟨i, hi, rfl⟩ := List.getElem_of_mem hp
  obtain ⟨_, _, _, _, h4, h5, _, _⟩ := h i _ (List.getElem?_eq_getElem hi)
  unfold maxLen at h5
  show (L[i]).n ≤ _
  omega

set_option maxRecDepth 100000 in
set_option maxHeartbeats 800000 in
/-- image.pagesOf. -/
theorem pagesOf_any (P : Option Addr) (c : Nat) (L : List Part) (B : Nat) (w : World) (hL : L.length ≤ 60) (ho : Secs w B P L) :
    Calls Tryd.prog 33 #[.slice P L.length c] w fun e w' => e = .returned (.int .i64 ((allPages (secsP L) : Nat) : Int)) ∧ w = w' := by
  have HO := Lib.hid ho
  have HM := Lib.hid (startAt_most (secsP L) ho.most)
  clear ho
  obtain ⟨S, hS⟩ : ∃ S, secsP L = S := ⟨_, rfl⟩
  have HS := Lib.hid hS
  obtain ⟨k, hk⟩ : ∃ k, L.length = k := ⟨_, rfl⟩
  have HK := Lib.hid hk
  have HSk := Lib.hid (show S.length = k by rw [← hS, secsP_length]; exact hk)
  rw [hk] at hL ⊢
  rw [hS]
  clear hk hS
  go_enter Tryd.func33, Tryd.ntmps33
  go_wp2_with fail
  go_loop [3, 8] (fun s v => ∃ i t : Nat, i ≤ k ∧ v = .int .i64 (i : Int) ∧ s = .int .i64 (t : Int) ∧ Hid (t = startAt S i)) (fun _ v => k - (intOf v).toNat)
  case atStart => exact ⟨0, 1, Nat.zero_le _, rfl, rfl, Lib.hid rfl⟩
  case round =>
    obtain ⟨i, t, hi, rfl, rfl, ht⟩ := hrel
    by_cases hlt : i < k
    · obtain ⟨p, hp⟩ : ∃ p, L[i]? = some p := ⟨_, List.getElem?_eq_getElem (by rw [HK.out]; exact hlt)⟩
      obtain ⟨ad, rfl, hb, hc, hnc, hcm, _, _⟩ := HO.out i p hp
      have hSp : S[i]? = some p.sec := by rw [← HS.out]; exact secsP_at hp
      have hst := startAt_succ S i p.sec hSp
      have hm := HM.out (i + 1) (by rw [HS.out, HSk.out]; omega)
      rw [HS.out] at hm
      have hpn : p.n ≤ 9223372036854775807 := by unfold maxLen at hcm; omega
      have HT := Lib.hid (show t + pgs p.n = startAt S (i + 1) by rw [hst, ht.out]; rfl)
      have HMy := Lib.hid (many_any (p.n : Int) w (by simp [Lit.wf, IntKind.min, IntKind.max, IntKind.bits, IntKind.signed]; omega))
      have HMN := Lib.hid (many_nat p.n)
      have hlti : (i : Int) < (k : Int) := by omega
      have htp : t + pgs p.n ≤ 9223372036854775807 := by have := HT.out; omega
      clear hp hcm hst hSp hm
      obtain ⟨A, n, cc, V⟩ := p
      obtain ⟨q, hq⟩ : ∃ q, pgs n = q := ⟨_, rfl⟩
      have htq : t + q ≤ 9223372036854775807 := by rw [← hq]; exact htp
      have e1 : IntKind.i64.wrap ((t : Int) + (q : Int)) = ((t + q : Nat) : Int) := by rw [IntWalk.i64_in _ (by omega)]; omega
      have HQ := Lib.hid hq
      clear hq htp
      go_wp2_with fail
      refine HMy.out.mono ?_
      rintro e w' ⟨rfl, rfl⟩
      rw [HMN.out, HQ.out]
      go_wp2_with fail
      go_round
      case rel => exact ⟨i + 1, t + q, by omega, by go_num, rfl, Lib.hid (by rw [← HT.out, HQ.out])⟩
      case measure => simp [intOf]; omega
    · obtain rfl : i = k := by omega
      go_wp2_with fail
      go_ret
      exact ⟨by rw [ht.out, ← HSk.out]; rfl, rfl⟩

set_option maxRecDepth 100000 in
set_option maxHeartbeats 1600000 in
/-- image.headOf. -/
theorem headOf_any (P : Option Addr) (c : Nat) (L : List Part) (w : World) (hL : L.length ≤ 60) (ho : Secs w w.heap.size P L) :
    Calls Tryd.prog 47 #[.slice P L.length c] w fun e w' => ∃ u, e = .returned u ∧ Grows w' w.heap.size u (6 + 4 * L.length) (headV (secsP L)) ∧ Below w.heap.size w w' := by
  have HO := Lib.hid ho
  clear ho
  obtain ⟨S, hS⟩ : ∃ S, secsP L = S := ⟨_, rfl⟩
  have HS := Lib.hid hS
  obtain ⟨k, hk⟩ : ∃ k, L.length = k := ⟨_, rfl⟩
  have HK := Lib.hid hk
  have HSk := Lib.hid (show S.length = k by rw [← hS, secsP_length]; exact hk)
  rw [hk] at hL ⊢
  rw [hS]
  have c1 := conv_lit w #[.int .u8 99, .int .u8 111, .int .u8 108, .int .u8 111] 4
  have hL1 : Bys (w.alloc (.cells #[.int .u8 99, .int .u8 111, .int .u8 108, .int .u8 111] 5 (4, 5))) _ _ 4 (ofList [99, 111, 108, 111]) := bys_lit [99, 111, 108, 111] (by decide) w (4, 5)
  have hbA : Below w.heap.size w (w.alloc (.cells #[.int .u8 99, .int .u8 111, .int .u8 108, .int .u8 111] 5 (4, 5))) := (Below.refl _ _).alloc (Nat.le_refl _) _
  have HLd := Lib.hid (imgLaid_any (.slice (some ⟨w.heap.size, 0, none⟩) 4 4) 4 (ofList [99, 111, 108, 111]) 2 k w.heap.size _ (by decide) (by decide) hbA.size (.inr ⟨w.heap.size, rfl, hL1.mono_ (by simp)⟩))
  clear hk hS hL1
  go_enter Tryd.func47, Tryd.ntmps47
  go_wp2_with fail
  refine HLd.out.mono ?_
  rintro e w1 ⟨u, rfl, hu, hb1⟩
  have hB1 := hbA.trans hb1
  have HU := Lib.hid (hu.cast (U := headV S) fun j hj => by
    have h : j = 0 ∨ j = 1 ∨ j = 2 ∨ j = 3 ∨ j = 4 ∨ j = 5 := by omega
    have hk8 : k % 256 = k := by omega
    have hk9 : k / 256 = 0 := by omega
    rcases h with rfl | rfl | rfl | rfl | rfl | rfl
    · rfl
    · rfl
    · rfl
    · rfl
    · show k / 256 ^ 0 % 256 = S.length
      rw [HSk.out, Nat.pow_zero, Nat.div_one, hk8]
    · show k / 256 ^ 1 % 256 = 0
      rw [Nat.pow_one, hk9])
  clear HLd hu hb1 c1
  go_wp2_with fail
  go_loopw [3, 14] (fun h v wr => ∃ i : Nat, i ≤ k ∧ v = .int .i64 (i : Int) ∧ Hid (Grows wr w.heap.size h (6 + 4 * i) (headV S)) ∧ Below w.heap.size w wr) (fun _ v _ => k - (intOf v).toNat)
  case atStart => exact ⟨0, Nat.zero_le _, rfl, HU, hB1⟩
  case round =>
    clear HU hB1
    obtain ⟨i, hi, rfl, hg, hb⟩ := hrel
    by_cases hlt : i < k
    · obtain ⟨p, hp⟩ : ∃ p, L[i]? = some p := ⟨_, List.getElem?_eq_getElem (by rw [HK.out]; exact hlt)⟩
      obtain ⟨ad, rfl, hbl, hc, hnc, hcm, _, _⟩ := (HO.out.below hb) i p hp
      have HLN := Lib.hid (show lenAt S i = p.n by have := lenAt_at (secsP_at hp); rw [HS.out] at this; exact this)
      have hlti : (i : Int) < (k : Int) := by omega
      clear hp hcm
      obtain ⟨A, n, cc, V⟩ := p
      have HLd := Lib.hid (imgLaid_any _ (6 + 4 * i) (headV S) 4 n w.heap.size wr (by decide) (by omega) hb.size hg.out)
      go_wp2_with fail
      refine HLd.out.mono ?_
      rintro e w2 ⟨u2, rfl, hu2, hb2⟩
      have HU2 := Lib.hid (hu2.cast (U := headV S) fun j hj => by
        unfold both
        split
        · rfl
        · have e := headV_len S i (j - (6 + 4 * i)) (by omega)
          rw [show 6 + 4 * i + (j - (6 + 4 * i)) = j by omega] at e
          rw [e, HLN.out])
      clear HLd hu2
      go_wp2_with fail
      go_roundw
      case rel => exact ⟨i + 1, by omega, by go_num, by rw [show 6 + 4 * (i + 1) = 6 + 4 * i + 4 by omega]; exact HU2, hb.trans hb2⟩
      case measure => simp [intOf]; omega
    · obtain rfl : i = k := by omega
      go_wp2_with fail
      go_ret
      exact ⟨_, rfl, hg.out, hb⟩
end Go.Proofs.YtjmajminfmcjcaaDoor
