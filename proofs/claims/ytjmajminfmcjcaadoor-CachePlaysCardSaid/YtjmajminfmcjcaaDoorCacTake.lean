/- The developers' Hold. The developers' Hold. -/
import Derived.Test.YtjmajminfmcjcaaDoorCacRoom
import Derived.Lib.SmallJoins
import Derived.Deep.CutBlock
import Derived.Deep.DeepCutAuto
namespace Go.Proofs.YtjmajminfmcjcaaDoor
open Go.RowKit

section
variable {rd : Nat → Prop} {w w' : World} {g gs : Nat} {img : Value} {D : List DF} {c : CS} {L : List Sec}
/-- a page of the image that the cache sees. -/
theorem imgOn_page {v : Value} (h : ImgOn rd w v L) (s : Int) :
    Calls Tryd.prog 24 #[v, .int .i64 s] w fun e w' =>
    ((0 ≤ s ∧ s < (allPages L : Int)) → ∃ u, e = .returned (.tuple #[u, .int .i64 0]) ∧ w'.ownsRow w.heap.size 5 1 u 256 (ycells (fun k => imageOf L (264 * s.toNat + k)) 256)) ∧ (¬ (0 ≤ s ∧ s < (allPages L : Int)) → e = .returned (.tuple #[.slice none 0 0, .int .i64 222])) ∧ Below w.heap.size w w' := by
  obtain ⟨g, gb, cb, As, cs, Y, rfl, h2, h3, _⟩ := h
  by_cases hs : 0 ≤ s ∧ s < (allPages L : Int)
  · obtain ⟨i, rfl⟩ : ∃ i : Nat, s = (i : Int) := ⟨s.toNat, by omega⟩
    refine (page_in h2 i (by omega)).mono ?_
    rintro e w' ⟨u, h5, h6, h7⟩
    refine ⟨fun _ => ⟨u, h5, ?_⟩, fun h => absurd hs h, h7⟩
    rw [Int.toNat_natCast]
    have e1 : ycells (fun k => imageOf L (264 * i + k)) 256 = ycells (fun j => Y (256 * i + j)) 256 := ycells_congr fun k hk => by
      rw [h3 _ (by omega)]
      unfold place
      congr 1
      omega
    rw [e1]
    exact h6
  · refine (page_out h2 s hs).mono ?_
    rintro e w' ⟨h5, rfl⟩
    exact ⟨fun h => absurd h hs, fun _ => h5, Below.refl _ _⟩

theorem pages_same {F G : List Fr} (hp : G.map Fr.page = F.map Fr.page) {x : Int} (h : ∀ (j : Nat) (g : Fr), F[j]? = some g → g.page ≠ x) : ∀ (j : Nat) (g : Fr), G[j]? = some g → g.page ≠ x := no_page hp h
/-- what room leaves, for a page that no frame has. -/
def RoomGot (rd : Nat → Prop) (w : World) (g gs : Nat) (img : Value) (c : CS) (L : List Sec) (x : Int) (e : Ending) (w' : World) : Prop :=
  ((∃ (i : Nat) (d : DF) (D1 : List DF) (c1 : CS), e = .returned (.pointer (some ⟨gs, i * 4, none⟩)) ∧ CC rd w' g gs img D1 c1 L ∧ D1[i]? = some d ∧ (∀ (j : Nat) (g : Fr), c1.F[j]? = some g → g.page ≠ x) ∧ c1.misses = c.misses ∧ c1.n = c.n ∧ holdR c x = ({ c1 with F := c1.F.set i ⟨x, 1, true⟩, misses := c.misses + 1 }, false, 0)) ∨
    (e = .returned (.pointer none) ∧ holdR c x = (c, false, 70) ∧ ∃ D', CC rd w' g gs img D' c L)) ∧ Own2 g gs w w'
theorem room_got (h : CC rd w g gs img D c L) {x : Int} (hx : ¬ (x < 0 ∨ (c.n : Int) ≤ x)) (hf : findF c.F x = none) :
    Calls Tryd.prog 25 #[.pointer (some ⟨g, 0, none⟩)] w (RoomGot rd w g gs img c L x) := by
  refine (room_any h).mono ?_
  rintro e w' ⟨h1, h2⟩
  rcases he : findF c.F (-1) with _ | i
  · obtain ⟨h3, h4, h5⟩ := h2 he
    rcases hs : sweep (2 * c.F.length) c.F c.hand with _ | ⟨i, F', h'⟩
    · obtain ⟨rfl, D', hD⟩ := h4 hs
      exact ⟨.inr ⟨rfl, by unfold holdR; rw [if_neg hx, hf, he, hs], D', hD⟩, h5⟩
    · obtain ⟨rfl, D', hD⟩ := h3 i F' h' hs
      have hp := sweep_pages _ _ _ _ _ _ hs
      obtain ⟨_, f, hfi, _⟩ := sweep_helds _ _ _ _ _ _ hs
      have hil : i < D'.length := by rw [hD.length]; exact (List.getElem?_eq_some_iff.1 hfi).1
      obtain ⟨d, hd⟩ : ∃ d, D'[i]? = some d := ⟨_, List.getElem?_eq_getElem hil⟩
      exact ⟨.inl ⟨i, d, D', _, rfl, hD, hd, no_page hp (findF_none hf), rfl, rfl, by unfold holdR; rw [if_neg hx, hf, he, hs]⟩, h5⟩
  · obtain ⟨rfl, rfl⟩ := h1 i he
    obtain ⟨f, hfi, _⟩ := findF_some he
    have hil : i < D.length := by rw [h.length]; exact (List.getElem?_eq_some_iff.1 hfi).1
    obtain ⟨d, hd⟩ : ∃ d, D[i]? = some d := ⟨_, List.getElem?_eq_getElem hil⟩
    exact ⟨.inl ⟨i, d, D, c, rfl, h, hd, findF_none hf, rfl, rfl, by unfold holdR; rw [if_neg hx, hf, he]⟩, Own2.refl_ _ _ _⟩

/-- a whole frame turned. -/
theorem CC.frame (h : CC rd w g gs img D c L) {i : Nat} {d : DF} (hi : D[i]? = some d) {x : Int} (hx : 0 ≤ x ∧ x < (c.n : Int)) (hno : ∀ (j : Nat) (g : Fr), c.F[j]? = some g → g.page ≠ x) {ad : Addr} {cp : Nat} (hcp : 256 ≤ cp ∧ cp ≤ maxLen) (hlt : ad.block < w.heap.size) (hne : ad.block ≠ g ∧ ad.block ≠ gs)
    (hV : ∀ k, k < 256 → w.cell? (ad.add k) = some (.int .u8 ((imageOf L (264 * x.toNat + k) : Nat) : Int))) :
    CC (fun k => rd k ∨ k = ad.block) ((((w.setCell ⟨gs, i * 4, none⟩ (.int .i64 x)).setCell ⟨gs, i * 4 + 1, none⟩ (.slice (some ad) 256 cp)).setCell ⟨gs, i * 4 + 2, none⟩ (.int .i64 1)).setCell ⟨gs, i * 4 + 3, none⟩ (.bool true)) g gs img (D.set i ⟨⟨x, 1, true⟩, .slice (some ad) 256 cp⟩) { c with F := c.F.set i ⟨x, 1, true⟩ } L := by
  obtain ⟨W, hW⟩ : ∃ W, ((((w.setCell ⟨gs, i * 4, none⟩ (.int .i64 x)).setCell ⟨gs, i * 4 + 1, none⟩ (.slice (some ad) 256 cp)).setCell ⟨gs, i * 4 + 2, none⟩ (.int .i64 1)).setCell ⟨gs, i * 4 + 3, none⟩ (.bool true)) = W := ⟨_, rfl⟩
  have hb : ∀ k, k ≠ gs → W.heap[k]? = w.heap[k]? := fun k hk => by
    rw [← hW]
    rw [Below.heap_setCell _ _ _ _ hk, Below.heap_setCell _ _ _ _ hk, Below.heap_setCell _ _ _ _ hk, Below.heap_setCell _ _ _ _ hk]
  have hs : W.heap.size = w.heap.size := by rw [← hW]; simp [World.setCell]
  have hrd : ∀ k, (rd k ∨ k = ad.block) → W.heap[k]? = w.heap[k]? := fun k hk => hb k (fun e => by
    rcases hk with hk | hk
    · subst e; exact h.apart.2 hk
    · exact hne.2 (hk ▸ e))
  have hbody : Lies W gs 64 (dcells (D.set i ⟨⟨x, 1, true⟩, .slice (some ad) 256 cp⟩)) := by
    have e := (((h.body.put (i * 4) (.int .i64 x)).put (i * 4 + 1) (.slice (some ad) 256 cp)).put (i * 4 + 2) (.int .i64 1)).put (i * 4 + 3) (.bool true)
    have hpg : fieldD ⟨⟨x, 1, true⟩, .slice (some ad) 256 cp⟩ 0 = .int .i64 x := by
      unfold fieldD pg
      rw [if_pos rfl, if_neg (show ¬ x = -1 by omega)]
    have e2 := dcells_all D i d ⟨⟨x, 1, true⟩, .slice (some ad) 256 cp⟩ hi
    rw [hpg] at e2
    rw [hW] at e
    rw [← e2]
    exact e
  rw [hW]
  have hun : Unlike (c.F.set i ⟨x, 1, true⟩) := unlike_set h.unlike i _ hno
  refine ⟨?_, hbody, ?_, ?_, ?_, hun, paged_set h.paged i _ hx, h.pages, (h.image.wider (fun k hk => .inl hk)).keep (Nat.le_of_eq hs.symm) hrd, ⟨fun e => e.elim h.apart.1 (fun e => hne.1 e.symm), fun e => e.elim h.apart.2 (fun e => hne.2 e.symm)⟩, fun d' hd' => ?_, fun k hk => ?_⟩
  · show Lies W g _ [img, .slice (some ⟨gs, 0, none⟩) (c.F.set i _).length (c.F.set i _).length, _, _, _]
    rw [List.length_set]
    exact h.head.same (hb g h.ne_)
  · rw [List.map_set, h.frames]
  · show c.hand < (c.F.set i _).length
    rw [List.length_set]
    exact h.hand
  · show (c.F.set i _).length ≤ 4096
    rw [List.length_set]
    exact h.few
  · rcases List.mem_or_eq_of_mem_set hd' with hm | rfl
    · have h1 := h.data d' hm
      refine ⟨h1.none_, fun h0 => ?_⟩
      obtain ⟨ad', c', e1, e2, e3, e4, e5, e6⟩ := h1.some_ h0
      exact ⟨ad', c', e1, e2, e3, .inl e4, by omega, fun k hk => (World.cell?_of_block (by rw [add_block]; exact hrd _ (.inl e4))).trans (e6 k hk)⟩
    · refine ⟨fun e => ?_, fun _ => ⟨ad, cp, rfl, hcp.1, hcp.2, .inr rfl, by omega, fun k hk => (World.cell?_of_block (by rw [add_block]; exact hrd _ (.inr rfl))).trans (hV k hk)⟩⟩
      have e : x = -1 := e
      omega
  · rcases hk with hk | rfl
    · have := h.lt k hk; omega
    · omega
theorem CC.bys (h : CC rd w g gs img D c L) (hL : Fits L) {i : Nat} {f : Fr} {ad : Addr} {cp : Nat} (hi : D[i]? = some ⟨f, .slice (some ad) 256 cp⟩) (h0 : 0 ≤ f.page) : Bys w w.heap.size (some ad) 256 (fun k => imageOf L (264 * f.page.toNat + k)) := by
  obtain ⟨ad', c', e1, e2, e3, e4, e5, e6⟩ := (h.data _ (List.mem_of_getElem? hi)).some_ h0
  cases e1
  exact fun k hk => ⟨ad, rfl, e5, e6 k hk, hL.byte _⟩
end
end Go.Proofs.YtjmajminfmcjcaaDoor

namespace Go.Proofs.YtjmajminfmcjcaaDoor
open Go.RowKit

section
variable {rd : Nat → Prop} {w w' : World} {g gs : Nat} {img : Value} {D : List DF} {c : CS} {L : List Sec}
/-- what Hold leaves. -/
def HeldPost (rd : Nat → Prop) (w : World) (g gs : Nat) (img : Value) (c : CS) (L : List Sec) (x : Int) (e : Ending) (w' : World) : Prop :=
  ∃ rd' D' u B, e = .returned (.tuple #[u, .bool (holdR c x).2.1, .int .i64 ((holdR c x).2.2 : Int)]) ∧ CC rd' w' g gs img D' (holdR c x).1 L ∧ (∀ k, rd' k → rd k ∨ w.heap.size ≤ k) ∧ Own2 g gs w w' ∧
    w.heap.size ≤ B ∧ (∀ k, rd' k → k < B) ∧ ((holdR c x).2.2 = 0 → w'.ownsRow B 5 1 u 256 (ycells (fun k => imageOf L (264 * x.toNat + k)) 256)) ∧ ((holdR c x).2.2 ≠ 0 → u = .slice none 0 0)

set_option maxRecDepth 100000 in
set_option maxHeartbeats 1600000 in
theorem hold_hit (h : CC rd w g gs img D c L) (hq : Calm c) (hL : Fits L) {x : Int} (hx : ¬ (x < 0 ∨ (c.n : Int) ≤ x)) {i : Nat} (hf : findF c.F x = some i) :
    Calls Tryd.prog 10 #[.pointer (some ⟨g, 0, none⟩), .int .i64 x] w (HeldPost rd w g gs img c L x) := by
  obtain ⟨f, hfi, hfp, _⟩ := findF_some hf
  have hil := (List.getElem?_eq_some_iff.1 hfi).1
  obtain ⟨d, hd⟩ : ∃ d, D[i]? = some d := ⟨_, List.getElem?_eq_getElem (by rw [h.length]; exact hil)⟩
  have hdf : d.f = f := by
    have h1 := h.at_ hd
    rw [hfi] at h1
    cases h1
    rfl
  subst hdf
  have hr : holdR c x = ({ c with F := c.F.set i { d.f with held := d.f.held + 1, mark := true }, hits := c.hits + 1 }, true, 0) := by
    unfold holdR
    rw [if_neg hx, hf]
    simp only [modify_at hfi]
  unfold HeldPost
  rw [hr]
  have hb := hq.held i _ hfi
  have hhit := hq.hits
  have hl := (lies_new w 3 [.int .i64 x]).cell 0
  obtain ⟨wA, hwA⟩ : ∃ W, w.alloc (.cells #[.int .i64 x] 3) = W := ⟨_, rfl⟩
  have hA : CC rd wA g gs img D c L := by rw [← hwA]; exact h.alloc _
  have hO : Own2 g gs w wA := by rw [← hwA]; exact own2_box
  have hsA : w.heap.size ≤ wA.heap.size := by rw [← hwA, size_alloc]; omega
  rw [show (#[Value.int IntKind.i64 x] : Array Value) = [Value.int IntKind.i64 x].toArray from rfl] at hwA
  rw [hwA] at hl
  have HF := Lib.hid (cfirst_one 21 (.pointer (some ⟨w.heap.size, 0, none⟩)) (enters_of Tryd.func21 (by kernel_rfl) rfl) hA (hasPage x) fun i d hd => hold1_any hA hl hd)
  unfold firstV at HF
  rw [idx_page (by omega), hf] at HF
  obtain ⟨ad, cp, hz, _, _, hrd, _, _⟩ := (hA.data d (List.mem_of_getElem? hd)).some_ (by omega)
  have e1 : wA.cell? ⟨gs, i * 4 + 1, none⟩ = some (.slice (some ad) 256 cp) := by rw [← hz]; exact hA.field (j := 1) hd (by decide)
  have e2 : wA.cell? ⟨gs, i * 4 + 2, none⟩ = some (.int .i64 (d.f.held : Int)) := hA.field (j := 2) hd (by decide)
  have e3 : wA.cell? ⟨gs, i * 4 + 3, none⟩ = some (.bool d.f.mark) := hA.field (j := 3) hd (by decide)
  have e4 : wA.cell? ⟨g, 3, none⟩ = some (.int .i64 (c.hits : Int)) := hA.head.cell 3
  have f1 : ∀ z, wA.frozen? ⟨gs, z, none⟩ = false := fun z => hA.free z
  have f2 : ∀ z, wA.frozen? ⟨g, z, none⟩ = false := fun z => hA.head.free z
  have hne := hA.ne_
  have hw1 : IntKind.i64.wrap ((d.f.held : Int) + 1) = ((d.f.held + 1 : Nat) : Int) := by
    rw [IntWalk.i64_in _ (by omega)]
    omega
  have hw2 : IntKind.i64.wrap ((c.hits : Int) + 1) = ((c.hits + 1 : Nat) : Int) := by
    rw [IntWalk.i64_in _ (by omega)]
    omega
  have hP1 := hA.put (i := i) (j := 2) (f' := { d.f with held := d.f.held + 1 }) hd (by decide) rfl (by
    intro j' hj' hne
    match j', hj', hne with
    | 0, _, _ => rfl
    | 1, _, _ => rfl
    | 3, _, _ => rfl
    | 2, _, hne => exact absurd rfl hne)
  have hP2 := hP1.put (i := i) (j := 3) (d := ⟨{ d.f with held := d.f.held + 1 }, d.z⟩) (f' := { d.f with held := d.f.held + 1, mark := true }) (by rw [List.getElem?_set_self (List.getElem?_eq_some_iff.1 hd).1]) (by decide) rfl (by
    intro j' hj' hne
    match j', hj', hne with
    | 0, _, _ => rfl
    | 1, _, _ => rfl
    | 2, _, _ => rfl
    | 3, _, hne => exact absurd rfl hne)
  simp only [List.set_set] at hP2
  have hP3 := hP2.hits_ (c.hits + 1)
  obtain ⟨W, hW⟩ : ∃ W, (((wA.setCell ⟨gs, i * 4 + 2, none⟩ (.int .i64 ((d.f.held : Int) + 1))).setCell ⟨gs, i * 4 + 3, none⟩ (.bool true)).setCell ⟨g, 3, none⟩ (.int .i64 ((c.hits : Int) + 1))) = W := ⟨_, rfl⟩
  have hC : CC rd W g gs img (D.set i ⟨{ d.f with held := d.f.held + 1, mark := true }, .slice (some ad) 256 cp⟩) { c with F := c.F.set i { d.f with held := d.f.held + 1, mark := true }, hits := c.hits + 1 } L := by
    rw [← hW, ← hz]
    exact hP3
  have hO3 : Own2 g gs w W := by
    rw [← hW]
    exact ((hO.trans (own2_put (a := ⟨gs, i * 4 + 2, none⟩) (.inr rfl) _)).trans (own2_put (a := ⟨gs, i * 4 + 3, none⟩) (.inr rfl) _)).trans (own2_put (a := ⟨g, 3, none⟩) (.inl rfl) _)
  have HCl : Hid (Calls Tryd.prog 23 #[.slice (some ad) 256 cp] W (ClonePost W 256 (fun k => imageOf L (264 * x.toNat + k)))) := Lib.hid (clone_any ad 256 cp _ W (by decide) (by
    have hb := hC.bys hL (i := i) (List.getElem?_set_self (List.getElem?_eq_some_iff.1 hd).1) (by show 0 ≤ d.f.page; omega)
    rw [← hfp]
    exact hb))
  have HC := Lib.hid hC
  have HO := Lib.hid hO3
  have HW := Lib.hid hW
  clear h hq hf hfi hd hP1 hP2 hP3 hC hO3 hA hO hr hb hW
  go_enter Tryd.func10, Tryd.ntmps10
  go_wp2_with fail
  refine HF.out.mono ?_
  rintro e w' ⟨rfl, rfl⟩
  go_wp2_with fail
  rw [HW.out]
  refine HCl.out.mono ?_
  rintro e w3 ⟨u, rfl, hu, hb3⟩
  have HU := Lib.hid hu
  clear hu
  go_wp2_with fail
  refine bodyPost_ret (v := .tuple #[u, .bool true, .int .i64 0]) (by simp [results, Tryd.results10, go_sem]) rfl ?_
  refine ⟨rd, _, u, W.heap.size, rfl, HC.out.keep hb3, fun k hk => .inl hk, HO.out.trans (Off.call hb3), HO.out.size, fun k hk => HC.out.lt k hk, fun _ => HU.out, fun h => absurd rfl h⟩
theorem holdR_out {c : CS} {x : Int} (hx : x < 0 ∨ (c.n : Int) ≤ x) : holdR c x = (c, false, 222) := by unfold holdR; rw [if_pos hx]
theorem find_out {c : CS} (hp : Paged c.F c.n) {x : Int} (hx : x < 0 ∨ (c.n : Int) ≤ x) : c.F.findIdx? (hasPage x) = none := by
  by_cases h0 : x < 0
  · exact idx_neg h0
  · rw [idx_page (by omega)]
    refine findF_no fun j f hf e => ?_
    rcases hp f (List.mem_of_getElem? hf) with h | h <;> omega
set_option maxRecDepth 100000 in
set_option maxHeartbeats 1600000 in
theorem hold_out (h : CC rd w g gs img D c L) {x : Int} (hx : x < 0 ∨ (c.n : Int) ≤ x) :
    Calls Tryd.prog 10 #[.pointer (some ⟨g, 0, none⟩), .int .i64 x] w (HeldPost rd w g gs img c L x) := by
  unfold HeldPost
  rw [holdR_out hx]
  have hl := (lies_new w 3 [.int .i64 x]).cell 0
  obtain ⟨wA, hwA⟩ : ∃ W, w.alloc (.cells #[.int .i64 x] 3) = W := ⟨_, rfl⟩
  have hA : CC rd wA g gs img D c L := by rw [← hwA]; exact h.alloc _
  have hbA : Below w.heap.size w wA := by rw [← hwA]; exact (Below.refl _ _).alloc (Nat.le_refl _) _
  rw [show (#[Value.int IntKind.i64 x] : Array Value) = [Value.int IntKind.i64 x].toArray from rfl] at hwA
  rw [hwA] at hl
  have HF := Lib.hid (cfirst_one 21 (.pointer (some ⟨w.heap.size, 0, none⟩)) (enters_of Tryd.func21 (by kernel_rfl) rfl) hA (hasPage x) fun i d hd => hold1_any hA hl hd)
  unfold firstV at HF
  rw [find_out h.paged hx] at HF
  obtain ⟨gi, hgi⟩ : ∃ gi : Nat, img = .pointer (some ⟨gi, 0, none⟩) := by
    obtain ⟨g, _, _, _, _, _, h1, _⟩ := h.image
    exact ⟨g, h1⟩
  subst hgi
  obtain ⟨wD, hwD⟩ : ∃ W, wA.drew = W := ⟨_, rfl⟩
  have hD : CC rd wD g gs (.pointer (some ⟨gi, 0, none⟩)) D c L := by rw [← hwD]; exact hA.drewN 1
  have hbD : Below w.heap.size w wD := by rw [← hwD]; exact below_drew' hbA
  have i0 : wD.cell? ⟨g, 0, none⟩ = some (.pointer (some ⟨gi, 0, none⟩)) := hD.head.cell 0
  have ib : wD.cell? ⟨w.heap.size, 0, none⟩ = some (.int .i64 x) := by rw [← hwD]; exact hl
  have HP := Lib.hid (imgOn_page hD.image x)
  have hno : ¬ (0 ≤ x ∧ x < (allPages L : Int)) := by have := h.pages; omega
  have HNO := Lib.hid hno
  have HD := Lib.hid hD
  clear h hA hD hno hbA hl
  go_enter Tryd.func10, Tryd.ntmps10
  go_wp2_with fail
  refine HF.out.mono ?_
  rintro e w' ⟨rfl, rfl⟩
  go_upto_region 9 with (fail)
  go_cut [8, 9] (fun s8 s9 wx => s8 = .slice none 0 0 ∧ s9 = .int .i64 222 ∧ Below wD.heap.size wD wx)
  case first =>
    go_region_with ((go_at_call 24; with_reducible refine HP.out.mono ?_; rintro e w2 ⟨_, h2, hb2⟩; obtain rfl := h2 HNO.out; have HB2 := Lib.hid hb2; clear h2 hb2))
    all_goals
      go_wp2_with fail
      go_meet
      exact ⟨rfl, rfl, HB2.out⟩
  case rest =>
    obtain ⟨rfl, rfl, hB⟩ := hcut
    have hB2 := hbD.trans (hB.mono hbD.size)
    have HC := Lib.hid (HD.out.keep hB)
    go_wp2_with fail
    refine bodyPost_ret (v := .tuple #[.slice none 0 0, .bool false, .int .i64 222]) (by simp [results, Tryd.results10, go_sem]) rfl ?_
    refine ⟨rd, D, .slice none 0 0, wc.heap.size, rfl, HC.out, fun k hk => .inl hk, Off.call hB2, hB2.size, fun k hk => HC.out.lt k hk, fun h => (by cases h), fun _ => rfl⟩
set_option maxRecDepth 100000 in
set_option maxHeartbeats 3200000 in
theorem hold_miss (h : CC rd w g gs img D c L) (hq : Calm c) (hL : Fits L) {x : Int} (hx : ¬ (x < 0 ∨ (c.n : Int) ≤ x)) (hf : findF c.F x = none) :
    Calls Tryd.prog 10 #[.pointer (some ⟨g, 0, none⟩), .int .i64 x] w (HeldPost rd w g gs img c L x) := by
  have hl := (lies_new w 3 [.int .i64 x]).cell 0
  have hgl := h.head.lt
  have hgsl := h.body.lt
  have hrdl := h.lt
  have hmis := hq.misses
  obtain ⟨wA, hwA⟩ : ∃ W, w.alloc (.cells #[.int .i64 x] 3) = W := ⟨_, rfl⟩
  have hA : CC rd wA g gs img D c L := by rw [← hwA]; exact h.alloc _
  have hbA : Below w.heap.size w wA := by rw [← hwA]; exact (Below.refl _ _).alloc (Nat.le_refl _) _
  rw [show (#[Value.int IntKind.i64 x] : Array Value) = [Value.int IntKind.i64 x].toArray from rfl] at hwA
  have hlA : Lies wA w.heap.size 3 [.int .i64 x] := by rw [← hwA]; exact lies_new w _ _
  rw [hwA] at hl
  have HF := Lib.hid (cfirst_one 21 (.pointer (some ⟨w.heap.size, 0, none⟩)) (enters_of Tryd.func21 (by kernel_rfl) rfl) hA (hasPage x) fun i d hd => hold1_any hA hl hd)
  unfold firstV at HF
  rw [idx_page (by omega), hf] at HF
  obtain ⟨gi, hgi⟩ : ∃ gi : Nat, img = .pointer (some ⟨gi, 0, none⟩) := by
    obtain ⟨g, _, _, _, _, _, h1, _⟩ := h.image
    exact ⟨g, h1⟩
  subst hgi
  obtain ⟨wD, hwD⟩ : ∃ W, wA.drew = W := ⟨_, rfl⟩
  have hD : CC rd wD g gs (.pointer (some ⟨gi, 0, none⟩)) D c L := by rw [← hwD]; exact hA.drewN 1
  have hbD : Below w.heap.size w wD := by rw [← hwD]; exact below_drew' hbA
  have hlD : Lies wD w.heap.size 3 [.int .i64 x] := by rw [← hwD]; exact hlA
  have i0 : wD.cell? ⟨g, 0, none⟩ = some (.pointer (some ⟨gi, 0, none⟩)) := hD.head.cell 0
  have ib : wD.cell? ⟨w.heap.size, 0, none⟩ = some (.int .i64 x) := hlD.cell 0
  have HP := Lib.hid (imgOn_page hD.image x)
  have hyes : 0 ≤ x ∧ x < (allPages L : Int) := by have := h.pages; omega
  have HYES := Lib.hid hyes
  have HD := Lib.hid hD
  have HLD := Lib.hid hlD
  have HX := Lib.hid hx
  have HFN := Lib.hid hf
  have HLF := Lib.hid hL
  clear h hA hD hyes hbA hl hlA hlD hq hx hf hL
  go_enter Tryd.func10, Tryd.ntmps10
  go_wp2_with fail
  refine HF.out.mono ?_
  rintro e w' ⟨rfl, rfl⟩
  go_upto_region 9 with (fail)
  go_cut [8, 9] (fun s8 s9 wx => ∃ gb cap, s8 = .slice (some ⟨gb, 0, none⟩) 256 cap ∧ s9 = .int .i64 0 ∧ wx.ownsRow wD.heap.size 5 1 (.slice (some ⟨gb, 0, none⟩) 256 cap) 256 (ycells (fun k => imageOf L (264 * x.toNat + k)) 256) ∧ Below wD.heap.size wD wx)
  case first =>
    go_region_with ((go_at_call 24; with_reducible refine HP.out.mono ?_; rintro e w2 ⟨h1, _, hb2⟩; obtain ⟨u, rfl, hu⟩ := h1 HYES.out; obtain ⟨gb, cap, rfl⟩ := Joins.ownsRow_form hu (by decide); have HB2 := Lib.hid hb2; have HU2 := Lib.hid hu; clear h1 hb2 hu))
    all_goals
      go_wp2_with fail
      go_meet
      exact ⟨gb, cap, rfl, rfl, HU2.out, HB2.out⟩
  case rest =>
    obtain ⟨gb, cap, rfl, rfl, hu, hB⟩ := hcut
    have hB2 := hbD.trans (hB.mono hbD.size)
    have hC := HD.out.keep hB
    have hsD : w.heap.size < wD.heap.size := HLD.out.lt
    have hgb := hu.lt gb rfl
    have hgg : gb ≠ g ∧ gb ≠ gs := ⟨by omega, by omega⟩
    have hcap : 256 ≤ cap ∧ cap ≤ maxLen := by
      rcases hu.2 with ⟨h, _⟩ | ⟨g', cap', cur, h, _, _, h1, h2, _⟩
      · cases h
      · cases h; exact ⟨h1, h2⟩
    have hcells : ∀ k, k < 256 → wc.cell? ((⟨gb, 0, none⟩ : Addr).add k) = some (.int .u8 ((imageOf L (264 * x.toNat + k) : Nat) : Int)) := fun k hk => hu.cells rfl k _ (ycells_at _ 256 k hk)
    have HG := Lib.hid (room_got hC HX.out HFN.out)
    have hlC : Lies wc w.heap.size 3 [.int .i64 x] := HLD.out.below hB hsD
    have HLC := Lib.hid hlC
    have HCells := Lib.hid hcells
    have HCap := Lib.hid hcap
    have hO2 : Own2 g gs w wc := Off.call hB2
    clear hC hu hB hlC hcells hcap
    go_wp2_with fail
    refine HG.out.mono ?_
    rintro e w5 ⟨hgot, hO5⟩
    have hO6 := hO2.trans hO5
    have hs5 := hO5.size
    rcases hgot with ⟨i, d, D1, c1, rfl, hC5, hd, hno, hms, hn1, hr⟩ | ⟨rfl, hr, D5, hC5⟩
    · have hx5 : 0 ≤ x ∧ x < (c1.n : Int) := by have := HX.out; rw [hn1]; omega
      have hcells5 : ∀ k, k < 256 → w5.cell? ((⟨gb, 0, none⟩ : Addr).add k) = some (.int .u8 ((imageOf L (264 * x.toNat + k) : Nat) : Int)) := fun k hk => hO5.cell (HCells.out k hk) (by rw [add_block]; exact hgg)
      have hFr := hC5.frame hd hx5 hno HCap.out (by show gb < w5.heap.size; omega) hgg hcells5
      have hMs := hFr.misses_ (c.misses + 1)
      have e0 : w5.cell? ⟨gs, i * 4, none⟩ = some (.int .i64 (pg d.f)) := hC5.field (j := 0) hd (by decide)
      have e1 : w5.cell? ⟨gs, i * 4 + 1, none⟩ = some d.z := hC5.field (j := 1) hd (by decide)
      have e2 : w5.cell? ⟨gs, i * 4 + 2, none⟩ = some (.int .i64 (d.f.held : Int)) := hC5.field (j := 2) hd (by decide)
      have e3 : w5.cell? ⟨gs, i * 4 + 3, none⟩ = some (.bool d.f.mark) := hC5.field (j := 3) hd (by decide)
      have e4 : w5.cell? ⟨g, 4, none⟩ = some (.int .i64 (c.misses : Int)) := by rw [← hms]; exact hC5.head.cell 4
      have e5 : w5.cell? ⟨w.heap.size, 0, none⟩ = some (.int .i64 x) := hO5.cell (HLC.out.cell 0) ⟨by show w.heap.size ≠ g; omega, by show w.heap.size ≠ gs; omega⟩
      have f1 : ∀ z, w5.frozen? ⟨gs, z, none⟩ = false := fun z => hC5.free z
      have f2 : ∀ z, w5.frozen? ⟨g, z, none⟩ = false := fun z => hC5.head.free z
      have hne := hC5.ne_
      have hw1 : IntKind.i64.wrap ((c.misses : Int) + 1) = (c.misses : Int) + 1 := IntWalk.i64_in _ (by omega)
      obtain ⟨W, hW⟩ : ∃ W, ((((w5.setCell ⟨gs, i * 4, none⟩ (.int .i64 x)).setCell ⟨gs, i * 4 + 1, none⟩ (.slice (some ⟨gb, 0, none⟩) 256 cap)).setCell ⟨gs, i * 4 + 2, none⟩ (.int .i64 1)).setCell ⟨gs, i * 4 + 3, none⟩ (.bool true)).setCell ⟨g, 4, none⟩ (.int .i64 ((c.misses : Int) + 1)) = W := ⟨_, rfl⟩
      have hCW : CC (fun k => rd k ∨ k = gb) W g gs (.pointer (some ⟨gi, 0, none⟩)) (D1.set i ⟨⟨x, 1, true⟩, .slice (some ⟨gb, 0, none⟩) 256 cap⟩) { c1 with F := c1.F.set i ⟨x, 1, true⟩, misses := c.misses + 1 } L := by
        rw [← hW]
        exact hMs
      have hOW : Own2 g gs w W := by
        rw [← hW]
        exact ((((hO6.trans (own2_put (a := ⟨gs, i * 4, none⟩) (.inr rfl) _)).trans (own2_put (a := ⟨gs, i * 4 + 1, none⟩) (.inr rfl) _)).trans (own2_put (a := ⟨gs, i * 4 + 2, none⟩) (.inr rfl) _)).trans (own2_put (a := ⟨gs, i * 4 + 3, none⟩) (.inr rfl) _)).trans (own2_put (a := ⟨g, 4, none⟩) (.inl rfl) _)
      have HCl : Hid (Calls Tryd.prog 23 #[.slice (some ⟨gb, 0, none⟩) 256 cap] W (ClonePost W 256 (fun k => imageOf L (264 * x.toNat + k)))) := Lib.hid (clone_any ⟨gb, 0, none⟩ 256 cap _ W (by decide)
        (hCW.bys HLF.out (i := i) (f := ⟨x, 1, true⟩) (List.getElem?_set_self (List.getElem?_eq_some_iff.1 hd).1) hx5.1))
      have HC := Lib.hid hCW
      have HO := Lib.hid hOW
      have HW := Lib.hid hW
      have HR := Lib.hid hr
      clear hFr hMs hC5 hCW hOW hW hr hcells5 hd hno hms hn1 hx5
      go_wp2_with fail
      rw [HW.out]
      refine HCl.out.mono ?_
      rintro e w7 ⟨u, rfl, hu, hb7⟩
      have HU := Lib.hid hu
      clear hu
      go_wp2_with fail
      refine bodyPost_ret (v := .tuple #[u, .bool false, .int .i64 0]) (by simp [results, Tryd.results10, go_sem]) rfl ?_
      unfold HeldPost
      rw [HR.out]
      refine ⟨fun k => rd k ∨ k = gb, _, u, W.heap.size, rfl, HC.out.keep hb7, fun k hk => hk.imp id (fun e => by omega), HO.out.trans (Off.call hb7), HO.out.size, fun k hk => HC.out.lt k hk, fun _ => HU.out, fun h => absurd rfl h⟩
    · have HC := Lib.hid hC5
      have HR := Lib.hid hr
      clear hC5 hr
      go_wp2_with fail
      refine bodyPost_ret (v := .tuple #[.slice none 0 0, .bool false, .int .i64 70]) (by simp [results, Tryd.results10, go_sem]) rfl ?_
      unfold HeldPost
      rw [HR.out]
      exact ⟨rd, D5, .slice none 0 0, w5.heap.size, rfl, HC.out, fun k hk => .inl hk, hO6, hO6.size, fun k hk => HC.out.lt k hk, fun h => (by cases h), fun _ => rfl⟩
theorem cacheHold_any (h : CC rd w g gs img D c L) (hq : Calm c) (hL : Fits L) (x : Int) :
    Calls Tryd.prog 10 #[.pointer (some ⟨g, 0, none⟩), .int .i64 x] w (HeldPost rd w g gs img c L x) := by
  by_cases hx : x < 0 ∨ (c.n : Int) ≤ x
  · exact hold_out h hx
  · rcases hf : findF c.F x with _ | i
    · exact hold_miss h hq hL hx hf
    · exact hold_hit h hq hL hx hf
end
end Go.Proofs.YtjmajminfmcjcaaDoor
