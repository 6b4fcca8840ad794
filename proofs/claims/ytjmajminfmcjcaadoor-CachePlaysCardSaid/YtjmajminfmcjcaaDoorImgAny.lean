/- The contract of image.Open; what layer 6's laws ask of package image holds. -/
import Derived.Test.YtjmajminfmcjcaaDoorImgDev
namespace Go.Proofs.YtjmajminfmcjcaaDoor
open Go.RowKit

theorem Img.other {B : Nat} {w : World} {g gb cb : Nat} {As : Option Addr} {cs m k : Nat} {Y F G F' G' : Nat → Nat} (h : Img B w g gb cb As cs m k Y F G) (hF : ∀ i, i < k → F i = F' i) (hG : ∀ i, i < k → G i = G' i) : Img B w g gb cb As cs m k Y F' G' :=
  ⟨h.head, h.lo, h.some_, h.room, h.few, h.body, fun i hi => by rw [← hF i hi, ← hG i hi]; exact h.spans i hi, fun i hi => by rw [← hF i hi, ← hG i hi]; exact h.fit i hi⟩
theorem secs_same {L : List Part} {V : Nat → Nat} {m K : Nat} (hS : Spanned (bodyV V) m K) (hl : L.length = K) (hp : ∀ i p, L[i]? = some p → p.n = lenU (bodyV V) i ∧ p.V = fun j => bodyV V (256 * startU (bodyV V) i + j)) : secsP L = secsU V := by
  have h1 := hS.1
  have h2 := hS.2.1
  rw [body_small V 4 (by decide), body_small V 5 (by decide)] at h1
  have h4 : V 4 = K := by omega
  apply List.ext_getElem?
  intro i
  by_cases hi : i < K
  · obtain ⟨p, hpi⟩ : ∃ p, L[i]? = some p := ⟨_, List.getElem?_eq_getElem (by omega)⟩
    obtain ⟨e1, e2⟩ := hp i p hpi
    rw [secsP_at hpi, secsU_at V i (by omega)]
    congr 1
    unfold Part.sec secU
    rw [e1, e2, body_len V i (by omega), body_start V i (by omega)]
    congr 1
    funext j
    exact body_place V _ j
  · rw [List.getElem?_eq_none (by rw [secsP_length]; omega), List.getElem?_eq_none (by rw [secsU_length]; omega)]

set_option maxRecDepth 100000 in
set_option maxHeartbeats 1600000 in
theorem open_any (A : Option Addr) (n c : Nat) (V : Nat → Nat) (w : World) (ht : Tabs w) (hn : n ≤ 4000000) (hA : A = none → n = 0 ∧ c = 0) (hc : n ≤ c) (ho : Bys w w.heap.size A n V) :
    Calls Tryd.prog 19 #[.slice A n c] w fun e w' =>
    ((∃ L, IsImage n V L) → ∃ v L, IsImage n V L ∧ e = .returned (.tuple #[v, .int .i64 0]) ∧ ImgAt w.heap.size w' v L) ∧ ((¬ ∃ L, IsImage n V L) → e = .returned (.tuple #[.pointer none, .int .i64 10])) ∧ Below w.heap.size w w' := by
  have HT := Lib.hid ht
  have HO := Lib.hid ho
  have hV8 : ∀ k, k < n → V k < 256 := fun k hk => (ho k hk).elim fun _ h => h.2.2.2
  have HV := Lib.hid hV8
  have HJ := Lib.hid (joined_any A n c V w hn hA hc ho ht)
  obtain ⟨lo, hlo⟩ : ∃ lo, w.heap.size = lo := ⟨_, rfl⟩
  rw [hlo] at HO HJ ⊢
  -- the answer where these bytes are no image
  have bad : ∀ (e : Ending) (w' : World), (¬ ∃ L, IsImage n V L) → e = .returned (.tuple #[.pointer none, .int .i64 10]) → Below lo w w' →
      ((∃ L, IsImage n V L) → ∃ v L, IsImage n V L ∧ e = .returned (.tuple #[v, .int .i64 0]) ∧ ImgAt lo w' v L) ∧ ((¬ ∃ L, IsImage n V L) → e = .returned (.tuple #[.pointer none, .int .i64 10])) ∧ Below lo w w' :=
    fun e w' h1 h2 h3 => ⟨fun h => absurd h h1, fun _ => h2, h3⟩
  clear ht ho hV8 hA
  go_enter Tryd.func19, Tryd.ntmps19
  go_wp2_with fail
  refine HJ.out.mono ?_
  rintro e w1 ⟨hb1, v, b1, rfl, hno1, hyes1⟩
  clear HJ
  cases b1 with
  | false =>
    have HNo := Lib.hid (fun h : ∃ L, IsImage n V L => h.elim fun L hL => hno1 rfl _ hL.joined)
    clear hno1 hyes1
    go_wp2_with fail
    go_ret2
    exact bad _ _ HNo.out rfl hb1
  | true =>
    obtain ⟨m, hJm, hrow⟩ := hyes1 rfl
    obtain ⟨gb, cb, rfl⟩ := Joins.ownsRow_form hrow (by have := hJm.1; omega)
    have hVb : ∀ z, z < 256 * m → bodyV V z < 256 := bodyV_lt HV.out (by have := hJm.2.2.1; omega)
    obtain ⟨X, cx, hX, _, hXc, hXo⟩ := row_bys hrow hVb
    obtain ⟨rfl, rfl⟩ : X = some ⟨gb, 0, none⟩ ∧ cx = cb := by
      cases hX
      exact ⟨rfl, rfl⟩
    have HSp := Lib.hid (spansOf_any ⟨gb, 0, none⟩ m cx (bodyV V) w1 ⟨hJm.1, hJm.2.1⟩ hXc hXo)
    have HJm := Lib.hid hJm
    have HRow := Lib.hid hrow
    have HVb := Lib.hid hVb
    obtain ⟨M, hM⟩ : ∃ M, 256 * m = M := ⟨_, rfl⟩
    have HM := Lib.hid hM
    rw [hM] at HSp
    have hbs1 := hb1.size
    clear hno1 hyes1 hJm hrow hVb hX hXc hXo
    rw [hM]
    clear hM
    go_wp2_with fail
    refine HSp.out.mono ?_
    rintro e w2 ⟨hb2, v2, b2, rfl, hno2, hyes2⟩
    have hB2 := hb1.trans (hb2.mono (by omega))
    clear HSp
    cases b2 with
    | false =>
      have HNo := Lib.hid (fun h : ∃ L, IsImage n V L => h.elim fun L hL => hno2 rfl _ (hL.spanned HJm.out.2.2.1))
      clear hno2 hyes2
      go_wp2_with fail
      go_ret2
      exact bad _ _ HNo.out rfl hB2
    | true =>
      obtain ⟨K, hSK, hsp⟩ := hyes2 rfl
      clear hno2 hyes2
      obtain ⟨X2, c2, rfl⟩ : ∃ X c, v2 = .slice X K c := by
        rcases hsp.2 with ⟨h1, h2⟩ | ⟨g, cap, _, h1, _⟩
        · exact ⟨none, 0, by rw [h1, h2]⟩
        · exact ⟨_, cap, h1⟩
      obtain ⟨w3, hw3⟩ : ∃ W, w2.alloc (.cells #[.slice (some ⟨gb, 0, none⟩) M cx, .slice X2 K c2] 86) = W := ⟨_, rfl⟩
      have hbs2 := hb2.size
      have hb3 : Below w2.heap.size w2 w3 := by rw [← hw3]; exact (Below.refl _ _).alloc (Nat.le_refl _) _
      have hl3 : Lies w3 w2.heap.size 86 [.slice (some ⟨gb, 0, none⟩) (256 * m : Nat) cx, .slice X2 K c2] := by rw [← hw3, HM.out]; exact lies_new w2 _ _
      have hB3 := hB2.trans (hb3.mono (by omega))
      have hsp3 : w3.ownsRow lo 92 2 (.slice X2 K c2) K (scells (bodyV V) K) := by
        rw [← hw3]
        have h : w2.ownsRow lo 92 2 (.slice X2 K c2) K (scells (bodyV V) K) := by
          refine ⟨hsp.1, ?_⟩
          rcases hsp.2 with h | ⟨g', cap, cur, h1, h2, h3⟩
          · exact .inl h
          · exact .inr ⟨g', cap, cur, h1, by omega, h3⟩
        exact h.alloc _
      have hrow3 : w3.ownsRow lo 5 1 (.slice (some ⟨gb, 0, none⟩) (256 * m : Nat) cx) (256 * m) (ycells (bodyV V) (256 * m)) := by rw [← hw3]; exact (ownsRow_keep HRow.out hb2).alloc _
      obtain ⟨As, cs, hv, hmk⟩ := img_made (g := w2.heap.size) (by omega) ⟨HJm.out.1, HJm.out.2.1⟩ HVb.out hSK hrow3 hsp3
      obtain ⟨rfl, rfl⟩ : X2 = As ∧ c2 = cs := by
        cases hv
        exact ⟨rfl, rfl⟩
      have HImg := Lib.hid (hmk hl3)
      have HSec := Lib.hid (sections_any (hmk hl3))
      have HSK := Lib.hid hSK
      clear hv hmk hl3 hsp3 hrow3 hsp hSK
      go_wp2_with fail
      refine HSec.out.mono ?_
      rintro e w4 ⟨P, L, rfl, hLl, hSecs, hLp, hb4⟩
      have hS : secsP L = secsU V := secs_same HSK.out hLl hLp
      have hbs3 := hb3.size
      have hbs4 := hb4.size
      have hB4 := hB3.trans (hb4.mono (by omega))
      have hHb := build_any P L.length L w4 (HT.out.keep (by rw [hlo]; exact hB4)) hSecs
      have h4m : allPages (secsU V) = m := by
        have h1 := HSK.out.1
        have h2 := HSK.out.2.1
        rw [body_small V 4 (by decide), body_small V 5 (by decide)] at h1
        rw [secsU_all, show V 4 = K by omega, ← body_start V K h2]
        exact HSK.out.2.2.2
      have hBd : Hid (Calls Tryd.prog 18 #[.slice P L.length L.length] w4 fun e w' => ∃ v, e = .returned (.tuple #[v, .int .i64 0]) ∧ w'.ownsRow w4.heap.size 5 1 v n (ycells (imageOf (secsU V)) n) ∧ Below w4.heap.size w4 w') := by
        refine Lib.hid (hHb.mono ?_)
        rintro e w' ⟨_, _, h3, h4⟩
        rw [hS, h4m] at h3
        obtain ⟨v, e1, e2⟩ := h3 (by rw [hLl]; exact HSK.out.2.1) HJm.out.2.1
        rw [← HJm.out.2.2.1] at e2
        exact ⟨v, e1, e2, h4⟩
      have HFits : Hid (Fits (secsU V)) := Lib.hid ⟨by rw [← hS, secsP_length, hLl]; exact HSK.out.2.1, by rw [h4m]; exact HJm.out.2.1, by rw [← hS]; exact hSecs.bytes⟩
      have H4m := Lib.hid h4m
      have HLen : Hid ((secsU V).length = K) := Lib.hid (by rw [← hS, secsP_length, hLl])
      clear hHb hS h4m hLp hSecs hLl HSec
      go_wp2_with fail
      refine hBd.out.mono ?_
      rintro e w5 ⟨v5, rfl, hr5, hb5⟩
      have hB5 := hB4.trans (hb5.mono (by omega))
      have hbs5 := hb5.size
      have hI8 : ∀ k, imageOf (secsU V) k < 256 := HFits.out.byte
      obtain ⟨Z, cz, rfl, _, _, hZo⟩ := row_bys hr5 (fun k _ => hI8 k)
      have HEq := Lib.hid (equal_any Z A n n cz c (imageOf (secsU V)) V _ _ w5 hZo (HO.out.below hB5))
      clear hr5 hZo hBd
      go_wp2_with fail
      refine HEq.out.mono ?_
      rintro e w6 ⟨rfl, hb6⟩
      have hB6 := hB5.trans (hb6.mono (by omega))
      by_cases hsame : bstr (imageOf (secsU V)) n = bstr V n
      · rw [decide_eq_true hsame]
        have hIm : IsImage n V (secsU V) := ⟨HFits.out, by rw [H4m.out]; exact HJm.out.2.2.1, fun k hk => ((bstr_same (fun k _ => hI8 k) (fun k hk => HV.out k hk) hsame).2 k hk).symm⟩
        have HIm := Lib.hid hIm
        clear hIm hsame HEq
        go_wp2_with fail
        go_ret2
        refine ⟨fun _ => ⟨_, secsU V, HIm.out, rfl, ?_⟩, fun h => absurd ⟨_, HIm.out⟩ h, hB6⟩
        have hI6 := HImg.out.keep (w' := w6) (hb4.trans ((hb5.mono hbs4).trans (hb6.mono (by omega))))
        have h1 := HSK.out.1
        have h2 := HSK.out.2.1
        rw [body_small V 4 (by decide), body_small V 5 (by decide)] at h1
        have hK4 : V 4 = K := by omega
        refine ⟨w2.heap.size, gb, cx, X2, c2, bodyV V, rfl, ?_, fun j hj => ?_, HFits.out⟩
        · rw [H4m.out, HLen.out]
          exact hI6.other (fun i hi => by rw [body_start V i (by omega), secsU_start V i (by omega)]) (fun i hi => by rw [body_len V i (by omega), lenAt_at (secsU_at V i (by omega))]; rfl)
        · refine HIm.out.2.2 _ ?_
          rw [H4m.out] at hj
          have := HJm.out.2.2.1
          unfold place
          omega
      · rw [decide_eq_false hsame]
        have HNo : Hid (¬ ∃ L, IsImage n V L) := Lib.hid fun ⟨L', hL'⟩ => hsame (bstr_congr fun k hk => ((hL'.formed.image (fun k hk => HV.out k hk)).2.2 k hk).symm)
        clear hsame HEq
        go_wp2_with fail
        go_ret2
        exact bad _ _ HNo.out rfl hB6

theorem sizeI_in {L : List Sec} {i : Nat} (h : i < L.length) : sizeI L (i : Int) = lenAt L i := by
  unfold sizeI
  rw [if_pos ⟨Int.natCast_nonneg _, by omega⟩, Int.toNat_natCast]
theorem firstI_in {L : List Sec} {i : Nat} (h : i < L.length) : firstI L (i : Int) = startAt L i := by
  unfold firstI
  rw [if_pos ⟨Int.natCast_nonneg _, by omega⟩, Int.toNat_natCast]
theorem sizeI_out {L : List Sec} {s : Int} (h : ¬ (0 ≤ s ∧ s < (L.length : Int))) : sizeI L s = 0 := by unfold sizeI; rw [if_neg h]
theorem firstI_out {L : List Sec} {s : Int} (h : ¬ (0 ≤ s ∧ s < (L.length : Int))) : firstI L s = 0 := by unfold firstI; rw [if_neg h]

end Go.Proofs.YtjmajminfmcjcaaDoor
