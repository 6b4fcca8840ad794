/- For every input colophonlaw06.ImageApart returns true, and its arguments read as they read. No condition but that the two tables lie as the program's text lays them (the card ties it). -/
import Derived.Test.YtbepoohphmicdaaDoorCrcLaw
import Derived.Test.YtbepoohphmicdaaDoorImgAny
import Derived.Test.YtbepoohphmicdaaDoorImgApart
namespace Go.Proofs.YtbepoohphmicdaaDoor.imageApart
open Go.ChangeShapes Go.WideShapes Go.ChangeAt Go.RowKit

theorem walk (P : Option Addr) (c : Nat) (L : List Part) (P' : Option Addr) (c' : Nat) (L' : List Part) (w : World) (hl : L.length ≤ c) (hcm : c ≤ maxLen) (hP : P = none → L = [] ∧ c = 0) (ho : Secs w w.heap.size P L) (hl' : L'.length ≤ c') (hcm' : c' ≤ maxLen) (hP' : P' = none → L' = [] ∧ c' = 0) (ho' : Secs w w.heap.size P' L') (ht : Tabs w) :
    Calls Tryd.prog 7 #[.slice P L.length c, .slice P' L'.length c'] w fun e w' => e = .returned (.bool true) ∧ Below w.heap.size w w' :=
  imgApart_walk img_any P c L P' c' L' w hl hcm hP ho hl' hcm' hP' ho' ht
theorem own : ownKnob Tryd.prog.godebug = none := by kernel_rfl
theorem laidOut : laidOutB Tryd.prog = true := by kernel_rfl

set_option maxRecDepth 100000 in
theorem lifted (os : Os) (started : os.Started) (H : Type) (enc : TypeId × Value → H) :
    ReturnsInHanded {} Tryd.checked os 7 .any (fun w args => (Rows.imageApartSpec.pre enc Tryd.prog Tryd.f7 [] false w args ∧ laidMetH Tryd.prog laidL w) ∧ sizedMet enc Tryd.prog Tryd.f7 (OpenSpec.ofChange Rows.imageApartSpec) false w args)
      (Rows.imageApartSpec.post enc Tryd.prog Tryd.f7 false true false false) := by
  refine returnsInHanded_of_change_and (C := Tryd.checked) (X := fun w _ => laidMetH Tryd.prog laidL w) (fun _ _ _ hh h => h.of_heap hh) own started (by kernel_rfl) Tryd.func7
    (ChangeSpec.witness_shaped (enc := enc) (C := Tryd.checked) (os := os) (X := fun w _ => laidMetH Tryd.prog laidL w) false (World.doorLaid Tryd.prog 400 os) #[.slice none 0 0, .slice none 0 0] 8 rfl (World.shaped_of_RefB (by kernel_rfl) (by kernel_rfl)) (by kernel_rfl) (by kernel_rfl) (by kernel_rfl) (door_met os _)) ?_
  intro W base args ds gs before hval0 hW _ _ hL _
  have hval : ∀ (j : Nat) t v, Tryd.f7.params[j]? = some t → args[j]? = some v → Value.okWide Tryd.prog W .any base t v := hval0
  have hW' := hW
  obtain ⟨p, q, hA0, hV, rfl, hfz, hnd⟩ := hW
  have hA : DataW.TrodAll enc Tryd.prog W 0 (fun _ => true) true Tryd.f7.params.toList args.toList ds p := hA0
  rw [Tryd.params7] at hA hval
  obtain ⟨v0, v1, d0, d1, p0, p1, rfl, rfl, rfl, h0, h1⟩ := trodAll_two hA
  obtain ⟨rfl, rfl⟩ := trodVars_none hV
  obtain ⟨P0, c0, L0, rfl, hl0, hm0, hz0, ho0⟩ := open_secs (hval 0 22 v0 rfl rfl) h0
  obtain ⟨P1, c1, L1, rfl, hl1, hm1, hz1, ho1⟩ := open_secs (hval 1 22 v1 rfl rfl) h1
  clear hA0 hval0
  refine (walk P0 c0 L0 P1 c1 L1 W hl0 hm0 hz0 ho0 hl1 hm1 hz1 ho1 (tabs_of_laid hL)).mono fun e W' ⟨he, hg⟩ => ?_
  subst he
  exact ⟨_, rfl, law_post laidOut rfl rfl rfl (by rw [Tryd.params7]; decide +kernel) hW' hg⟩

/-- The row. -/
theorem holds : Rows.ImageApartSaid :=
  OpenClaim.holds_of_wide 7 Tryd.f7 rfl rfl rfl rfl rfl rfl rfl ⟨rfl, rfl, rfl, rfl, rfl⟩ rfl rfl rfl rfl rfl (by kernel_rfl) Tryd.func7 (by kernel_rfl)
    (of_decide_eq_true (by kernel_rfl)) (by unfold Func.isWrapper; first | (rw [if_pos (by decide +kernel)]; kernel_rfl) | (rw [if_neg (by decide +kernel)]; exact ⟨rfl, rfl⟩))
    (fun os started H enc _ => lifted os started H enc)
/-- The statement: the row's card. -/
theorem proved : Rows.ImageApartCardSaid :=
  Claim7.holds_tied_plain_at .later [] Rows.imageApartCard.laidKinds Rows.imageApartCard.laidTests Rows.imageApartCard.stood.harness Rows.imageApartCard.stood.looks
    holds (fun _ h => by cases h) (by kernel_rfl) (fun _ h => by cases h) imageApart_row_tie rfl ⟨rfl, rfl⟩ (by kernel_rfl) rfl
    (fun f fn hf hfn => by
      obtain rfl : f = 7 := Option.some.inj ((show Tryd.prog.funcNamed "colophon/colophonlaw06.ImageApart" = some 7 by kernel_rfl).symm.trans hf) |>.symm
      obtain rfl : fn = Tryd.f7 := (Option.some.inj (Tryd.func7.symm.trans hfn)).symm
      exact ⟨by kernel_rfl, fun j t ht => by
        have hm : t ∈ Tryd.f7.params.toList := by simpa using Array.mem_of_getElem? ht
        have hall : (Tryd.f7.params.toList.all fun u => !Tryd.prog.wantsStandIn u) = true := by kernel_rfl
        exact (show Tryd.prog.wantsStandIn t = false by simpa using List.all_eq_true.1 hall t hm)⟩)
    (by kernel_rfl)
#print axioms proved
end Go.Proofs.YtbepoohphmicdaaDoor.imageApart
