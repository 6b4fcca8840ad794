/- The contract of the opening of layer 4's laws: it is true, and leaves what was there as it was. -/
import Derived.Test.YtjmajminfmcjcaaDoorCrcCut
import Derived.Test.YtjmajminfmcjcaaDoorCrcRef
import Derived.Lib.SmallJoins
import Derived.Lib.SlBytesConst
namespace Go.Proofs.YtjmajminfmcjcaaDoor
open Go.RowKit

/-- bytes out of a list. -/
def ofList (l : List Nat) : Nat → Nat := fun k => l.getD k 0
theorem bys_lit (l : List Nat) (hl : ∀ x ∈ l, x < 256) (w : World) (fz : Nat × Nat) : Bys (w.alloc (.cells (l.map fun (x : Nat) => Value.int .u8 (x : Int)).toArray 5 fz)) (w.heap.size + 1) (some ⟨w.heap.size, 0, none⟩) l.length (ofList l) := fun k hk => by
  refine ⟨⟨w.heap.size, 0, none⟩, rfl, Nat.lt_succ_self _, ?_, ?_⟩
  · have e : (⟨w.heap.size, 0, none⟩ : Addr).add k = ⟨w.heap.size, k, none⟩ := by unfold Addr.add; split <;> simp_all
    rw [e, World.cell?_alloc_mark]
    simp [ofList, hk]
  · unfold ofList
    rw [List.getD_eq_getElem?_getD, List.getElem?_eq_getElem hk]
    exact hl _ (List.getElem_mem _)
theorem conv_lit (w : World) (C : Array Value) (n : Nat) : (convert 31 31 (.slice (some ⟨w.heap.size, 0, none⟩) n n)).run Tryd.prog (w.alloc (.cells C 5)) = .ok (.slice (some ⟨w.heap.size, 0, none⟩) n n) (w.alloc (.cells C 5 (C.size, C.size + 1))) :=
  Lib.run_convert_bytes_const w 31 5 C n n Tryd.underlying31 Tryd.underlying5
theorem conv_lit1 (w : World) (o : Obj) (C : Array Value) (n : Nat) : (convert 31 31 (.slice (some ⟨w.heap.size + 1, 0, none⟩) n n)).run Tryd.prog ((w.alloc o).alloc (.cells C 5)) = .ok (.slice (some ⟨w.heap.size + 1, 0, none⟩) n n) ((w.alloc o).alloc (.cells C 5 (C.size, C.size + 1))) :=
  Joins.run_convert_bytes_const_at (w.alloc o) 31 5 C n n (w.heap.size + 1) (size_alloc w o).symm Tryd.underlying31 Tryd.underlying5

/-- the bytes of the example. -/
def o4 : Obj := .cells #[.int .u8 49, .int .u8 50, .int .u8 51, .int .u8 52] 5 (4, 5)
def o5 : Obj := .cells #[.int .u8 53, .int .u8 54, .int .u8 55, .int .u8 56, .int .u8 57] 5 (5, 6)
theorem sum_nine (w : World) (ht : Tabs w) :
    Calls Tryd.prog 56 #[.slice (some ⟨w.heap.size + 2, 0, none⟩) 2 2] (((w.alloc o4).alloc o5).alloc (.cells #[.slice (some ⟨w.heap.size, 0, none⟩) 4 4, .slice (some ⟨w.heap.size + 1, 0, none⟩) 5 5] 31)) fun e w' => e = .returned (.int .u32 3421780262) ∧ Below w.heap.size w w' := by
  have hb4 : Below w.heap.size w (w.alloc o4) := (Below.refl _ _).alloc (Nat.le_refl _) _
  have hb5 : Below w.heap.size w ((w.alloc o4).alloc o5) := hb4.alloc hb4.size _
  have hL4 : Bys (w.alloc o4) _ _ 4 (ofList [49, 50, 51, 52]) := bys_lit [49, 50, 51, 52] (by decide) w (4, 5)
  have hL5 : Bys ((w.alloc o4).alloc o5) _ (some ⟨(w.alloc o4).heap.size, 0, none⟩) 5 (ofList [53, 54, 55, 56, 57]) := bys_lit [53, 54, 55, 56, 57] (by decide) (w.alloc o4) (5, 6)
  have hb45 : Below (w.alloc o4).heap.size (w.alloc o4) ((w.alloc o4).alloc o5) := (Below.refl _ _).alloc (Nat.le_refl _) _
  rw [size_alloc] at hL5 hb45
  refine (sum_parts [⟨some ⟨w.heap.size, 0, none⟩, 4, 4, ofList [49, 50, 51, 52]⟩, ⟨some ⟨w.heap.size + 1, 0, none⟩, 5, 5, ofList [53, 54, 55, 56, 57]⟩] ((w.alloc o4).alloc o5) (w.heap.size + 2) (by rw [size_alloc, size_alloc]) (by show 2 ≤ 4; decide) ?_ (ht.keep hb5)).mono ?_
  · intro p hp
    have hs : ((w.alloc o4).alloc o5).heap.size = w.heap.size + 2 := by rw [size_alloc, size_alloc]
    rw [hs]
    rcases List.mem_cons.1 hp with rfl | hp
    · exact ⟨by show 4 ≤ 4194304; decide, (hL4.below hb45).mono_ (by omega)⟩
    · rcases List.mem_singleton.1 hp with rfl
      exact ⟨by show 5 ≤ 4194304; decide, hL5.mono_ (by omega)⟩
  · rintro e w' ⟨rfl, hb'⟩
    refine ⟨?_, hb5.trans (hb'.mono hb5.size)⟩
    have : (regAll Pl.allOnes [⟨some ⟨w.heap.size, 0, none⟩, 4, 4, ofList [49, 50, 51, 52]⟩, ⟨some ⟨w.heap.size + 1, 0, none⟩, 5, 5, ofList [53, 54, 55, 56, 57]⟩] ^^^ Pl.allOnes : Nat) = 3421780262 := by
      show Pl.more (Pl.more Pl.allOnes (ofList [49, 50, 51, 52]) 4) (ofList [53, 54, 55, 56, 57]) 5 ^^^ Pl.allOnes = 3421780262
      decide +kernel
    rw [this]
    rfl

end Go.Proofs.YtjmajminfmcjcaaDoor
