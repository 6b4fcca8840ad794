/- A collection's parts, as layer 16's laws take them: of which document each suffix in order is, what the suffixes have in common, the suffixes; a pattern's symbols. -/
import Derived.Test.YtoeamldadclodaaTalI
import Derived.Test.YtoeamldadclodaaTxtRef
import Derived.Test.YtoeamldadclodaaLcpRef
import Derived.Test.YtoeamldadclodaaFindRef
namespace Go.Proofs.Ytoeamldadclodaa
open Go.RowKit

/-- an order's places, as a row's numbers. -/
def natI (s : Nat → Nat) : Nat → Int := fun i => ((s i : Nat) : Int)
/-- what Parts leaves. -/
def PartsPost (w : World) (S : List Sec) (N : Nat) (e : Ending) (w' : World) : Prop :=
  ∃ (A1 A2 A3 : Option Addr) (c1 c2 c3 : Nat) (s : Nat → Nat), e = .returned (.tuple #[.slice A1 N c1, .slice A2 N c2, .slice A3 N c3]) ∧ IsSA (symI S) N s ∧ ItsR w' A1 N c1 (docAt S (natI s)) ∧ ItsR w' A2 N c2 (lcpI (symI S) N (natI s)) ∧ ItsR w' A3 N c3 (natI s) ∧ Below w.heap.size w w'

set_option maxRecDepth 100000 in
set_option maxHeartbeats 3200000 in
theorem parts16_any (P : Option Addr) (c : Nat) (L : List Part) (w : World) (hL : L.length ≤ 4000) (hS : lenT (docsP L) ≤ 100000) (ho : Secs w w.heap.size P L) :
    Calls Try.prog 13 #[.slice P L.length c] w (PartsPost w (docsP L) (lenT (docsP L))) := by
  unfold PartsPost
  obtain ⟨lo, hlo⟩ : ∃ lo, w.heap.size = lo := ⟨_, rfl⟩
  have HSy := Lib.hid (refSymbols_any P c L w hL (by omega) ho)
  have HDo : Hid (∀ W p, Below lo w W → (Lit.int .i64 p).wf = true → Hid (Calls Try.prog 23 #[.slice P L.length c, .int .i64 p] W fun e w' => e = .returned (.tuple #[.int .i64 (docI (docsP L) p).1, .int .i64 (docI (docsP L) p).2]) ∧ W = w')) := Lib.hid fun W p hW hp => Lib.hid (refDoc_any P c L w.heap.size W (by unfold maxLen; omega) (ho.below (by rw [hlo]; exact hW)) p hp)
  obtain ⟨k, hk⟩ : ∃ k, L.length = k := ⟨_, rfl⟩
  have hSk : (docsP L).length ≤ 4000 := by rw [docsP_length]; exact hL
  have hSs : ∀ x ∈ docsP L, ∀ j, j < x.n → x.V j < 256 := fun x hx j hj => by
    unfold docsP at hx
    obtain ⟨p, hp, rfl⟩ := List.mem_map.1 hx
    obtain ⟨q, hq⟩ := List.getElem?_of_mem hp
    obtain ⟨_, _, _, _, _, _, _, hb⟩ := ho q p hq
    exact (hb j hj).elim fun _ h => h.2.2.2
  have HSs := Lib.hid hSs
  rw [hk] at HSy HDo ⊢
  generalize docsP L = S at HSy HDo hS hSk HSs ⊢
  obtain ⟨N, hN⟩ : ∃ N, lenT S = N := ⟨_, rfl⟩
  rw [hN] at HSy hS ⊢
  rw [hlo] at HSy ⊢
  have HB : Hid (∀ i, i < N → -9223372036854775808 ≤ symI S i ∧ symI S i ≤ 9223372036854775807) := Lib.hid fun i hi => by
    have h := sym_lt HSs.out (p := i) (by rw [hN]; exact hi)
    unfold symI
    omega
  clear ho hk hN hSs
  go_enter Try.func13, Try.ntmps13
  go_wp2_with fail
  refine HSy.out.mono ?_
  rintro e w1 ⟨u, rfl, hu, hb1⟩
  obtain ⟨As, cs, rfl, hIs⟩ := ItsR.of_own hu HB.out
  have HIs := Lib.hid hIs
  have HB1 := Lib.hid hb1
  have HAr := Lib.hid (refArrayS_any As N cs (symI S) w1 (by omega) hIs.2.2.2)
  clear hu hIs hb1 HSy
  go_wp2_with fail
  refine HAr.out.mono ?_
  rintro e w2 ⟨u2, s, rfl, hs, hu2, hb2⟩
  have hsr : ∀ i, i < N → -9223372036854775808 ≤ natI s i ∧ natI s i ≤ 9223372036854775807 := fun i hi => by have := hs.1 i hi; unfold natI; omega
  obtain ⟨Aa, ca, rfl, hIa⟩ := ItsR.of_own (V := natI s) hu2 hsr
  have HSa := Lib.hid hs
  have HIa := Lib.hid hIa
  have HIs2 := Lib.hid (HIs.out.below hb2)
  have HB2 := Lib.hid (below_up hlo HB1.out hb2)
  have hs2 := HB2.out.size
  have H0 : Hid (w2.ownsRow w2.heap.size 3 1 (.slice none 0 0) 0 (icells (docAt S (natI s)) 0)) := Lib.hid (World.ownsRow_nil _ _ _ _)
  clear hs hu2 hb2 hIa HIs HAr HB1 hsr
  go_wp2_with fail
  go_loopw [7, 18] (fun o v wr => ∃ i : Nat, i ≤ N ∧ v = .int .i64 (i : Int) ∧ Hid (wr.ownsRow w2.heap.size 3 1 o i (icells (docAt S (natI s)) i)) ∧ Hid (Below w2.heap.size w2 wr)) (fun _ v _ => N - (intOf v).toNat)
  case atStart => exact ⟨0, Nat.zero_le _, rfl, H0, Lib.hid (Below.refl _ _)⟩
  case round =>
    clear H0
    obtain ⟨i, hi, rfl, hrow, hb⟩ := hrel
    have hbs := hb.out.size
    by_cases hlt : i < N
    · have hlti : (i : Int) < (N : Int) := by omega
      obtain ⟨ad, rfl, _, cx, hx⟩ := HIa.out.2.2.2.below hb.out i hlt
      have HD := HDo.out wr (natI s i) (below_up hlo HB2.out hb.out) (WalkArith.wf_i64 hx)
      have hi4 : i ≤ 4194304 := by omega
      have HDv : Hid (docAt S (natI s) i = (docI S (natI s i)).1) := Lib.hid rfl
      obtain ⟨p, hp⟩ : ∃ p, natI s i = p := ⟨_, rfl⟩
      rw [hp] at cx HD HDv
      obtain ⟨d, hd⟩ : ∃ d, docI S p = d := ⟨_, rfl⟩
      rw [hd] at HD HDv
      obtain ⟨d1, d2⟩ := d
      clear hp hd hx
      go_wp2_with (first
        | (go_at_call 23; (with_reducible refine HD.out.mono ?_); rintro e w' ⟨rfl, rfl⟩)
        | (at_builtin; refine step_append_int rfl (.tmp 28) (.tmp 30) rfl rfl hrow.out _ rfl hbs hi4 ?_; intro v4 w4 hown4 hb4))
      go_roundw
      case rel => exact ⟨i + 1, by omega, by go_num, Lib.hid (by
        rw [icells_snoc, HDv.out]
        exact hown4.out), Lib.hid (hb.out.trans hb4)⟩
      case measure => simp [intOf]; omega
    · obtain rfl : i = N := by omega
      have hge : ¬ (i : Int) < (i : Int) := by omega
      have hdr : ∀ j, j < i → -9223372036854775808 ≤ docAt S (natI s) j ∧ docAt S (natI s) j ≤ 9223372036854775807 := fun j _ => by
        have h1 := docAt_room (S := S) (p := natI s j)
        unfold docAt
        omega
      obtain ⟨Ad, cd, e7, hId⟩ := ItsR.of_own hrow.out hdr
      subst e7
      have HId := Lib.hid hId
      have HB3 := Lib.hid (below_up hlo HB2.out hb.out)
      have HIa3 := Lib.hid (HIa.out.below hb.out)
      have HIs3 := Lib.hid (HIs2.out.below hb.out)
      have HL := Lib.hid (refArrayL_any As Aa i cs i ca (symI S) (natI s) wr (by omega) (by omega) HIs3.out.2.2.2 HIa3.out.2.2.2)
      clear hrow hdr hId hb HIa HIs2 HDo
      go_wp2_with fail
      refine HL.out.mono ?_
      rintro e w4 ⟨u4, rfl, hu4, hb4⟩
      obtain ⟨Al, cl, rfl, hIl⟩ := ItsR.of_own hu4 (fun j hj => by
        have := lcpI_room (V := symI S) (n := i) (S := natI s) (i := j)
        omega)
      have HIl := Lib.hid hIl
      have HB4 := Lib.hid (below_up hlo HB3.out hb4)
      have HId4 := Lib.hid (HId.out.below hb4)
      have HIa4 := Lib.hid (HIa3.out.below hb4)
      clear hu4 hIl hb4 HL
      go_wp2_with fail
      refine bodyPost_ret (v := .tuple #[.slice Ad i cd, .slice Al i cl, .slice Aa i ca]) (by simp [results, Try.results13, go_sem]) rfl ?_
      exact ⟨Ad, Al, Aa, cd, cl, ca, s, rfl, HSa.out, HId4.out, HIl.out, HIa4.out, HB4.out⟩
end Go.Proofs.Ytoeamldadclodaa
