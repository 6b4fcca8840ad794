/- The contract of the opening of layer 4's laws: it is true, and leaves what was there as it was. -/
import Derived.Test.YtfpmipfegjchmaaDoorCrcCut
import Derived.Test.YtfpmipfegjchmaaDoorCrcRef
import Derived.Lib.SmallJoins
import Derived.Lib.SlBytesConst
namespace Go.Proofs.YtfpmipfegjchmaaDoor
open Go.RowKit

/-- bytes out of a list. -/
def ofList (l : List Nat) : Nat → Nat := fun k => l.getD k 0
theorem bys_lit (l : List Nat) (hl : ∀ x ∈ l, x < 256) (w : World) (fz : Nat × Nat) : Bys (w.alloc (.cells (l.map fun (x : Nat) => Value.int .u8 (x : Int)).toArray 5 fz)) (w.heap.size + 1) (some ⟨w.heap.size, 0, none⟩) l.length (ofList l) := fun k hk => by
  refine ⟨⟨w.heap.size, 0, none⟩, rfl, Nat.lt_succ_self _, ?_, ?_⟩
  · have e : (⟨w.heap.size, 0, none⟩ : Addr).add k = ⟨w.heap.size, k, none⟩ := by unfold Addr.add; split <;> simp_all
    rw [e, World.cell?_alloc_mark]
    simp [ofList, hk]
  · unfold ofList
    rw [List.getD_eq_getElem?_getD, List.getElem?_eq_getElem hk]
    exact hl _ (List.getElem_mem _)
theorem conv_lit (w : World) (C : Array Value) (n : Nat) : (convert 22 22 (.slice (some ⟨w.heap.size, 0, none⟩) n n)).run Tryd.prog (w.alloc (.cells C 5)) = .ok (.slice (some ⟨w.heap.size, 0, none⟩) n n) (w.alloc (.cells C 5 (C.size, C.size + 1))) :=
  Lib.run_convert_bytes_const w 22 5 C n n Tryd.underlying22 Tryd.underlying5
theorem conv_lit1 (w : World) (o : Obj) (C : Array Value) (n : Nat) : (convert 22 22 (.slice (some ⟨w.heap.size + 1, 0, none⟩) n n)).run Tryd.prog ((w.alloc o).alloc (.cells C 5)) = .ok (.slice (some ⟨w.heap.size + 1, 0, none⟩) n n) ((w.alloc o).alloc (.cells C 5 (C.size, C.size + 1))) :=
  Joins.run_convert_bytes_const_at (w.alloc o) 22 5 C n n (w.heap.size + 1) (size_alloc w o).symm Tryd.underlying22 Tryd.underlying5

/-- the bytes of the example. -/
def o4 : Obj := .cells #[.int .u8 49, .int .u8 50, .int .u8 51, .int .u8 52] 5 (4, 5)
def o5 : Obj := .cells #[.int .u8 53, .int .u8 54, .int .u8 55, .int .u8 56, .int .u8 57] 5 (5, 6)
theorem sum_nine (w : World) (ht : Tabs w) :
    Calls Tryd.prog 10 #[.slice (some ⟨w.heap.size + 2, 0, none⟩) 2 2] (((w.alloc o4).alloc o5).alloc (.cells #[.slice (some ⟨w.heap.size, 0, none⟩) 4 4, .slice (some ⟨w.heap.size + 1, 0, none⟩) 5 5] 22)) fun e w' => e = .returned (.int .u32 3421780262) ∧ Below w.heap.size w w' := by
  have hb4 : Below w.heap.size w (w.alloc o4) := (Below.refl _ _).alloc (Nat.le_refl _) _
  have hb5 : Below w.heap.size w ((w.alloc o4).alloc o5) := hb4.alloc hb4.size _
  have hL4 : Bys (w.alloc o4) _ _ 4 (ofList [49, 50, 51, 52]) := bys_lit [49, 50, 51, 52] (by decide) w (4, 5)
  have hL5 : Bys ((w.alloc o4).alloc o5) _ (some ⟨(w.alloc o4).heap.size, 0, none⟩) 5 (ofList [53, 54, 55, 56, 57]) := bys_lit [53, 54, 55, 56, 57] (by decide) (w.alloc o4) (5, 6)
  have hb45 : Below (w.alloc o4).heap.size (w.alloc o4) ((w.alloc o4).alloc o5) := (Below.refl _ _).alloc (Nat.le_refl _) _
  rw [size_alloc] at hL5 hb45
  refine (sum_parts [⟨some ⟨w.heap.size, 0, none⟩, 4, 4, ofList [49, 50, 51, 52]⟩, ⟨some ⟨w.heap.size + 1, 0, none⟩, 5, 5, ofList [53, 54, 55, 56, 57]⟩] ((w.alloc o4).alloc o5) (w.heap.size + 2) (by rw [size_alloc, size_alloc]) (by show 2 ≤ 4; decide) ?_ (ht.keep hb5)).mono ?_
  · intro p hp
    have hs : ((w.alloc o4).alloc o5).heap.size = w.heap.size + 2 := by rw [size_alloc, size_alloc]
    rw [hs]
    rcases List.mem_cons.1 hp with rfl | hp
    · exact ⟨by show 4 ≤ 4194304; decide, (hL4.below hb45).mono_ (by omega)⟩
    · rcases List.mem_singleton.1 hp with rfl
      exact ⟨by show 5 ≤ 4194304; decide, hL5.mono_ (by omega)⟩
  · rintro e w' ⟨rfl, hb'⟩
    refine ⟨?_, hb5.trans (hb'.mono hb5.size)⟩
    have : (regAll Pl.allOnes [⟨some ⟨w.heap.size, 0, none⟩, 4, 4, ofList [49, 50, 51, 52]⟩, ⟨some ⟨w.heap.size + 1, 0, none⟩, 5, 5, ofList [53, 54, 55, 56, 57]⟩] ^^^ Pl.allOnes : Nat) = 3421780262 := by
      show Pl.more (Pl.more Pl.allOnes (ofList [49, 50, 51, 52]) 4) (ofList [53, 54, 55, 56, 57]) 5 ^^^ Pl.allOnes = 3421780262
      decide +kernel
    rw [this]
    rfl

set_option maxRecDepth 100000 in
set_option maxHeartbeats 1600000 in
theorem cfirst_any (w : World) (ht : Tabs w) : Calls Tryd.prog 8 #[] w fun e w' => e = .returned (.bool true) ∧ Below w.heap.size w w' := by
  have HT := Lib.hid ht
  have c1 := conv_lit w #[.int .u8 97, .int .u8 98] 2
  have hL1 : Bys (w.alloc (.cells #[.int .u8 97, .int .u8 98] 5 (2, 3))) _ _ 2 (ofList [97, 98]) := bys_lit [97, 98] (by decide) w (2, 3)
  have hbA : Below w.heap.size w (w.alloc (.cells #[.int .u8 97, .int .u8 98] 5 (2, 3))) := (Below.refl _ _).alloc (Nat.le_refl _) _
  have HP := Lib.hid (put_any (some ⟨w.heap.size, 0, none⟩) 2 2 (ofList [97, 98]) _ (by decide) (fun e => (by cases e)) (hL1.mono_ (by simp)) (HT.out.keep hbA))
  clear hL1 ht
  go_enter Tryd.func8, Tryd.ntmps8
  go_wp2_with fail
  refine HP.out.mono ?_
  rintro e w1 ⟨v, rfl, hv, hb1⟩
  have hB1 := hbA.trans (hb1.mono hbA.size)
  have HC := Lib.hid (cut_put (by decide) hv (fun k hk => by
    have h2 : k = 0 ∨ k = 1 := by omega
    rcases h2 with rfl | rfl <;> decide) (HT.out.keep hB1))
  clear HP hbA hb1 hv c1
  go_wp2_with fail
  refine HC.out.mono ?_
  rintro e w2 ⟨u, rfl, hu, hb2⟩
  have hB2 := hB1.trans (hb2.mono hB1.size)
  have HU := Lib.hid hu
  have c2 := conv_lit w2 #[.int .u8 97, .int .u8 98, .int .u8 99, .int .u8 100, .int .u8 101, .int .u8 102] 6
  have hL2 : Bys (w2.alloc (.cells #[.int .u8 97, .int .u8 98, .int .u8 99, .int .u8 100, .int .u8 101, .int .u8 102] 5 (6, 7))) _ _ 6 (ofList [97, 98, 99, 100, 101, 102]) := bys_lit [97, 98, 99, 100, 101, 102] (by decide) w2 (6, 7)
  have hbx : Below w2.heap.size w2 (w2.alloc (.cells #[.int .u8 97, .int .u8 98, .int .u8 99, .int .u8 100, .int .u8 101, .int .u8 102] 5 (6, 7))) := (Below.refl _ _).alloc (Nat.le_refl _) _
  have HC2 := Lib.hid (cut_any (some ⟨w2.heap.size, 0, none⟩) 6 6 (ofList [97, 98, 99, 100, 101, 102]) _ (by decide) (fun e => (by cases e)) (by decide) (hL2.mono_ (by simp)) (HT.out.keep (hB2.trans (hbx.mono hB2.size))))
  have hB3 := hB2.trans (hbx.mono hB2.size)
  have HU3 := Lib.hid (ownsRow_keep hu hbx)
  clear HC hb2 hB1 hu hL2 hB2 HU hbx
  go_wp2_with fail
  refine HC2.out.mono ?_
  rintro e w3 ⟨_, hbad, _, hb3⟩
  obtain rfl := hbad 2 rfl (by
    intro hE
    have h := hE 0 (by decide)
    revert h
    decide +kernel)
  have hB4 := hB3.trans (hb3.mono hB3.size)
  have HU4 := Lib.hid (ownsRow_keep HU3.out hb3)
  have c3 := conv_lit w3 #[.int .u8 49, .int .u8 50, .int .u8 51, .int .u8 52] 4
  have c4 := conv_lit1 w3 o4 #[.int .u8 53, .int .u8 54, .int .u8 55, .int .u8 56, .int .u8 57] 5
  have HN := Lib.hid (sum_nine w3 (HT.out.keep hB4))
  unfold o4 at c4 HN
  unfold o5 at HN
  clear HC2 hB3 HU3 hb3 c2 hbad
  go_wp2_with fail
  refine HN.out.mono ?_
  rintro e w4 ⟨rfl, hb4⟩
  have hB5 := hB4.trans (hb4.mono hB4.size)
  have hconv := row_conv (ownsRow_keep HU4.out hb4) (fun k hk => by
    have h2 : k = 0 ∨ k = 1 := by omega
    rcases h2 with rfl | rfl <;> decide)
  rw [show bstr (ofList [97, 98]) 2 = { data := #[97, 98] } by decide +kernel] at hconv
  clear HN c3 c4 hB4 HU4 hb4
  go_wp2_with fail
  go_ret
  exact ⟨rfl, hB5⟩
end Go.Proofs.YtfpmipfegjchmaaDoor
