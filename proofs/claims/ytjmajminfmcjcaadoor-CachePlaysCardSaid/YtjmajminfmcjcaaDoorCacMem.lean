/- The developers' cache as it lies; its smallest functions. -/
import Derived.Test.YtjmajminfmcjcaaDoorCacDoc
import Derived.Test.YtjmajminfmcjcaaDoorCacPure
import Derived.Test.YtjmajminfmcjcaaDoorImgAny
namespace Go.Proofs.YtjmajminfmcjcaaDoor
open Go.RowKit

/-- a frame, and the slice of its bytes. -/
structure DF where
  f : Fr
  z : Value
/-- what stands for the page: an empty frame has 0. -/
def pg (f : Fr) : Int := if f.page = -1 then 0 else f.page
def fieldD (d : DF) (j : Nat) : Value := if j = 0 then .int .i64 (pg d.f) else if j = 1 then d.z else if j = 2 then .int .i64 (d.f.held : Int) else .bool d.f.mark
def dcells (D : List DF) : List Value := D.flatMap fun d => [fieldD d 0, fieldD d 1, fieldD d 2, fieldD d 3]
theorem dcells_length : ∀ D : List DF, (dcells D).length = D.length * 4
  | [] => rfl
  | d :: D => by
    unfold dcells
    rw [List.flatMap_cons, List.length_append, show (D.flatMap fun d => [fieldD d 0, fieldD d 1, fieldD d 2, fieldD d 3]) = dcells D from rfl, dcells_length D, List.length_cons]
    simp
    omega
theorem dcells_get : ∀ (D : List DF) (k : Nat), (dcells D)[k]? = D[k / 4]?.map fun d => fieldD d (k % 4)
  | [], k => by simp [dcells]
  | d :: D, k => by
    unfold dcells
    rw [List.flatMap_cons]
    by_cases h : k < 4
    · rw [List.getElem?_append_left (by simpa using h), show k / 4 = 0 by omega]
      have h3 : k = 0 ∨ k = 1 ∨ k = 2 ∨ k = 3 := by omega
      rcases h3 with rfl | rfl | rfl | rfl <;> rfl
    · rw [List.getElem?_append_right (by simp; omega), show k / 4 = (k - 4) / 4 + 1 by omega, List.getElem?_cons_succ, show k % 4 = (k - 4) % 4 by omega]
      exact dcells_get D (k - 4)
theorem dcells_at (D : List DF) (i j : Nat) (d : DF) (hi : D[i]? = some d) (hj : j < 4) : (dcells D)[i * 4 + j]? = some (fieldD d j) := by
  rw [dcells_get, show (i * 4 + j) / 4 = i by omega, show (i * 4 + j) % 4 = j by omega, hi]
  rfl
theorem dcells_set (D : List DF) (i j : Nat) (d d' : DF) (hi : D[i]? = some d) (hj : j < 4) (hk : ∀ j', j' < 4 → j' ≠ j → fieldD d' j' = fieldD d j') : (dcells D).set (i * 4 + j) (fieldD d' j) = dcells (D.set i d') := by
  have hil := (List.getElem?_eq_some_iff.1 hi).1
  apply List.ext_getElem?
  intro k
  rw [List.getElem?_set, dcells_length, dcells_get, dcells_get, List.getElem?_set]
  by_cases h : i * 4 + j = k
  · subst h
    rw [if_pos rfl, if_pos (by omega), show (i * 4 + j) / 4 = i by omega, show (i * 4 + j) % 4 = j by omega, if_pos rfl, if_pos hil]
    rfl
  · rw [if_neg h]
    by_cases h2 : i = k / 4
    · rw [if_pos h2, if_pos hil, ← h2, hi]
      show some (fieldD d (k % 4)) = some (fieldD d' (k % 4))
      rw [hk (k % 4) (by omega) (by omega)]
    · rw [if_neg h2]
theorem dcells_all (D : List DF) (i : Nat) (d d' : DF) (hi : D[i]? = some d) : ((((dcells D).set (i * 4) (fieldD d' 0)).set (i * 4 + 1) (fieldD d' 1)).set (i * 4 + 2) (fieldD d' 2)).set (i * 4 + 3) (fieldD d' 3) = dcells (D.set i d') := by
  have hil := (List.getElem?_eq_some_iff.1 hi).1
  apply List.ext_getElem?
  intro k
  simp only [List.getElem?_set, List.length_set, dcells_length, dcells_get]
  by_cases h2 : i = k / 4
  · rw [if_pos h2, if_pos hil]
    have h3 : k = i * 4 ∨ k = i * 4 + 1 ∨ k = i * 4 + 2 ∨ k = i * 4 + 3 := by omega
    rcases h3 with rfl | rfl | rfl | rfl
    · rw [if_neg (by omega), if_neg (by omega), if_neg (by omega), if_pos rfl, if_pos (by omega), show i * 4 % 4 = 0 by omega]
      rfl
    · rw [if_neg (by omega), if_neg (by omega), if_pos rfl, if_pos (by omega), show (i * 4 + 1) % 4 = 1 by omega]
      rfl
    · rw [if_neg (by omega), if_pos rfl, if_pos (by omega), show (i * 4 + 2) % 4 = 2 by omega]
      rfl
    · rw [if_pos rfl, if_pos (by omega), show (i * 4 + 3) % 4 = 3 by omega]
      rfl
  · rw [if_neg (by omega), if_neg (by omega), if_neg (by omega), if_neg (by omega), if_neg h2]

/-- the image as the cache sees it: all of it in blocks that rd names. -/
def ImgOn (rd : Nat → Prop) (w : World) (v : Value) (L : List Sec) : Prop :=
  ∃ (g gb cb : Nat) (As : Option Addr) (cs : Nat) (Y : Nat → Nat), v = .pointer (some ⟨g, 0, none⟩) ∧ Img 0 w g gb cb As cs (allPages L) L.length Y (startAt L) (lenAt L) ∧ (∀ j, j < 256 * allPages L → Y j = imageOf L (place 0 j)) ∧ Fits L ∧ (rd g ∧ rd gb ∧ ∀ ad, As = some ad → 0 < L.length → rd ad.block)
theorem ImgOn.keep {rd : Nat → Prop} {w w' : World} {v : Value} {L : List Sec} (h : ImgOn rd w v L) (hs : w.heap.size ≤ w'.heap.size) (hb : ∀ k, rd k → w'.heap[k]? = w.heap[k]?) : ImgOn rd w' v L := by
  obtain ⟨g, gb, cb, As, cs, Y, h1, h2, h3, h4, h5, h6, h7⟩ := h
  refine ⟨g, gb, cb, As, cs, Y, h1, ⟨h2.head.same (hb g h5), ⟨Nat.zero_le _, Nat.zero_le _, Nat.lt_of_lt_of_le h2.lo.2.2 hs⟩, h2.some_, h2.room, h2.few, fun j hj => ⟨(World.cell?_of_block (a := ⟨gb, j, none⟩) (hb gb h6)).trans (h2.body j hj).1, (h2.body j hj).2⟩, fun i hi => ?_, h2.fit⟩, h3, h4, h5, h6, h7⟩
  obtain ⟨ad, e1, e2, e3, e4, e5⟩ := h2.spans i hi
  have hr := h7 ad e1 (by omega)
  exact ⟨ad, e1, e2, Nat.lt_of_lt_of_le e3 hs, (World.cell?_of_block (by rw [add_block]; exact hb _ hr)).trans e4, (World.cell?_of_block (by show w'.heap[(ad.add (i * 2)).block]? = w.heap[(ad.add (i * 2)).block]?; rw [add_block]; exact hb _ hr)).trans e5⟩
theorem ImgOn.of_at {B : Nat} {w : World} {v : Value} {L : List Sec} (h : ImgAt B w v L) : ∃ rd, ImgOn rd w v L ∧ ∀ k, rd k → B ≤ k ∧ k < w.heap.size := by
  obtain ⟨g, gb, cb, As, cs, Y, h1, h2, h3, h4⟩ := h
  refine ⟨fun k => k = g ∨ k = gb ∨ ∃ ad, As = some ad ∧ 0 < L.length ∧ k = ad.block, ⟨g, gb, cb, As, cs, Y, h1, ⟨h2.head, ⟨Nat.zero_le _, Nat.zero_le _, h2.lo.2.2⟩, h2.some_, h2.room, h2.few, h2.body, fun i hi => ?_, h2.fit⟩, h3, h4, .inl rfl, .inr (.inl rfl), fun ad e h0 => .inr (.inr ⟨ad, e, h0, rfl⟩)⟩, fun k hk => ?_⟩
  · obtain ⟨ad, e1, e2, e3, e4, e5⟩ := h2.spans i hi
    exact ⟨ad, e1, Nat.zero_le _, e3, e4, e5⟩
  · rcases hk with rfl | rfl | ⟨ad, e, h0, rfl⟩
    · exact ⟨h2.lo.1, h2.head.lt⟩
    · exact ⟨h2.lo.2.1, h2.lo.2.2⟩
    · obtain ⟨ad', e1, e2, e3, _⟩ := h2.spans 0 h0
      rw [e] at e1
      cases e1
      exact ⟨e2, e3⟩
theorem ImgOn.wider {rd rd' : Nat → Prop} {w : World} {v : Value} {L : List Sec} (h : ImgOn rd w v L) (hr : ∀ k, rd k → rd' k) : ImgOn rd' w v L := by
  obtain ⟨g, gb, cb, As, cs, Y, h1, h2, h3, h4, h5, h6, h7⟩ := h
  exact ⟨g, gb, cb, As, cs, Y, h1, h2, h3, h4, hr _ h5, hr _ h6, fun ad e h0 => hr _ (h7 ad e h0)⟩

/-- what a frame's bytes are. -/
structure Held1 (rd : Nat → Prop) (w : World) (L : List Sec) (d : DF) : Prop where
  none_ : d.f.page = -1 → d.z = .slice none 0 0
  some_ : 0 ≤ d.f.page → ∃ (ad : Addr) (c : Nat), d.z = .slice (some ad) 256 c ∧ 256 ≤ c ∧ c ≤ maxLen ∧ rd ad.block ∧ ad.block < w.heap.size ∧ ∀ k, k < 256 → w.cell? (ad.add k) = some (.int .u8 ((imageOf L (264 * d.f.page.toNat + k) : Nat) : Int))
theorem Held1.keep {rd : Nat → Prop} {w w' : World} {L : List Sec} {d : DF} (h : Held1 rd w L d) (hs : w.heap.size ≤ w'.heap.size) (hb : ∀ k, rd k → w'.heap[k]? = w.heap[k]?) : Held1 rd w' L d :=
  ⟨h.none_, fun h0 => by
    obtain ⟨ad, c, h1, h2, h3, h4, h5, h6⟩ := h.some_ h0
    exact ⟨ad, c, h1, h2, h3, h4, by omega, fun k hk => (World.cell?_of_block (by rw [add_block]; exact hb _ h4)).trans (h6 k hk)⟩⟩
/-- the developers' cache: its struct in block g, its frames in block gs, what it reads besides in rd. -/
structure CC (rd : Nat → Prop) (w : World) (g gs : Nat) (img : Value) (D : List DF) (c : CS) (L : List Sec) : Prop where
  head : Lies w g 67 [img, .slice (some ⟨gs, 0, none⟩) c.F.length c.F.length, .int .i64 (c.hand : Int), .int .i64 (c.hits : Int), .int .i64 (c.misses : Int)]
  body : Lies w gs 64 (dcells D)
  frames : D.map DF.f = c.F
  hand : c.hand < c.F.length
  few : c.F.length ≤ 4096
  unlike : Unlike c.F
  paged : Paged c.F c.n
  pages : c.n = allPages L
  image : ImgOn rd w img L
  apart : ¬ rd g ∧ ¬ rd gs
  data : ∀ d ∈ D, Held1 rd w L d
  lt : ∀ k, rd k → k < w.heap.size

section
variable {rd : Nat → Prop} {w w' : World} {g gs : Nat} {img : Value} {D : List DF} {c : CS} {L : List Sec}
theorem CC.ne_ (h : CC rd w g gs img D c L) : g ≠ gs := h.head.unlike h.body (by decide)
theorem CC.keepOn (h : CC rd w g gs img D c L) (hs : w.heap.size ≤ w'.heap.size) (hb : ∀ k, (rd k ∨ k = g ∨ k = gs) → w'.heap[k]? = w.heap[k]?) : CC rd w' g gs img D c L :=
  ⟨h.head.same (hb g (.inr (.inl rfl))), h.body.same (hb gs (.inr (.inr rfl))), h.frames, h.hand, h.few, h.unlike, h.paged, h.pages, h.image.keep hs fun k hk => hb k (.inl hk), h.apart, fun d hd => (h.data d hd).keep hs fun k hk => hb k (.inl hk), fun k hk => Nat.lt_of_lt_of_le (h.lt k hk) hs⟩
theorem CC.within (h : CC rd w g gs img D c L) {k : Nat} (hk : rd k ∨ k = g ∨ k = gs) : k < w.heap.size := by
  rcases hk with hk | rfl | rfl
  · exact h.lt k hk
  · exact h.head.lt
  · exact h.body.lt
theorem CC.keep (h : CC rd w g gs img D c L) (hb : Below w.heap.size w w') : CC rd w' g gs img D c L := h.keepOn hb.size fun k hk => hb.block k (h.within hk)
theorem CC.drewN (h : CC rd w g gs img D c L) (n : Nat) : CC rd (w.drewN n) g gs img D c L := h.keepOn (Nat.le_refl _) fun _ _ => rfl
theorem CC.alloc (h : CC rd w g gs img D c L) (o : Obj) : CC rd (w.alloc o) g gs img D c L := h.keep ((Below.refl _ _).alloc (Nat.le_refl _) o)
theorem CC.length (h : CC rd w g gs img D c L) : D.length = c.F.length := by rw [← h.frames, List.length_map]
theorem CC.at_ (h : CC rd w g gs img D c L) {i : Nat} {d : DF} (hd : D[i]? = some d) : c.F[i]? = some d.f := by rw [← h.frames, List.getElem?_map, hd]; rfl
theorem CC.field (h : CC rd w g gs img D c L) {i j : Nat} {d : DF} (hi : D[i]? = some d) (hj : j < 4) : w.cell? ⟨gs, i * 4 + j, none⟩ = some (fieldD d j) := by
  rw [h.body.cell]
  exact dcells_at D i j d hi hj
theorem CC.free (h : CC rd w g gs img D c L) (k : Nat) : w.frozen? ⟨gs, k, none⟩ = false := h.body.free k
/-- the cache behind a turn of its own two blocks. -/
theorem CC.turn {D' : List DF} {c' : CS} (h : CC rd w g gs img D c L) (hs : w.heap.size ≤ w'.heap.size) (hb : ∀ k, rd k → w'.heap[k]? = w.heap[k]?)
    (hh : Lies w' g 67 [img, .slice (some ⟨gs, 0, none⟩) c.F.length c.F.length, .int .i64 (c'.hand : Int), .int .i64 (c'.hits : Int), .int .i64 (c'.misses : Int)])
    (hd : Lies w' gs 64 (dcells D')) (hf : D'.map DF.f = c'.F) (hl : c'.F.length = c.F.length) (hc : c'.hand < c.F.length) (hu : Unlike c'.F) (hp : Paged c'.F c'.n) (hn : c'.n = c.n) (hD : ∀ d ∈ D', Held1 rd w' L d) : CC rd w' g gs img D' c' L :=
  ⟨by rw [hl]; exact hh, hd, hf, by rw [hl]; exact hc, by rw [hl]; exact h.few, hu, hp, hn.trans h.pages, h.image.keep hs hb, h.apart, hD, fun k hk => Nat.lt_of_lt_of_le (h.lt k hk) hs⟩
/-- one number of a frame turned: how often it is held, or its mark. -/
theorem CC.put (h : CC rd w g gs img D c L) {i j : Nat} {d : DF} {f' : Fr} (hi : D[i]? = some d) (hj : j < 4) (hp : f'.page = d.f.page) (hk : ∀ j', j' < 4 → j' ≠ j → fieldD ⟨f', d.z⟩ j' = fieldD d j') :
    CC rd (w.setCell ⟨gs, i * 4 + j, none⟩ (fieldD ⟨f', d.z⟩ j)) g gs img (D.set i ⟨f', d.z⟩) { c with F := c.F.set i f' } L := by
  have hil := (List.getElem?_eq_some_iff.1 hi).1
  have hpages : (c.F.set i f').map Fr.page = c.F.map Fr.page := by
    apply List.ext_getElem?
    intro k
    rw [List.getElem?_map, List.getElem?_map, List.getElem?_set]
    by_cases e : i = k
    · subst e
      rw [if_pos rfl, if_pos (by rw [← h.length]; exact hil), h.at_ hi]
      simp [hp]
    · rw [if_neg e]
  have hrd : ∀ k, rd k → (w.setCell ⟨gs, i * 4 + j, none⟩ (fieldD ⟨f', d.z⟩ j)).heap[k]? = w.heap[k]? := fun k hk => Below.heap_setCell _ _ _ _ (fun e => h.apart.2 (by subst e; exact hk))
  have hsz : w.heap.size ≤ (w.setCell ⟨gs, i * 4 + j, none⟩ (fieldD ⟨f', d.z⟩ j)).heap.size := by simp [World.setCell]
  refine h.turn hsz hrd (h.head.far h.ne_ _) ?_ ?_ List.length_set h.hand (unlike_same h.unlike hpages) (paged_same h.paged hpages) rfl fun d' hd' => ?_
  · have e := h.body.put (i * 4 + j) (fieldD ⟨f', d.z⟩ j)
    rw [dcells_set D i j d ⟨f', d.z⟩ hi hj hk] at e
    exact e
  · rw [List.map_set, h.frames]
  · rcases List.mem_or_eq_of_mem_set hd' with hm | rfl
    · exact (h.data d' hm).keep hsz hrd
    · have h1 := (h.data d (List.mem_of_getElem? hi)).keep hsz hrd
      exact ⟨fun e => h1.none_ (hp ▸ e), fun e => by
        have h2 := h1.some_ (hp ▸ e)
        rw [← hp] at h2
        exact h2⟩
/-- the hand, hits, misses turned. -/
theorem CC.hand_ (h : CC rd w g gs img D c L) (x : Nat) (hx : x < c.F.length) : CC rd (w.setCell ⟨g, 2, none⟩ (.int .i64 (x : Int))) g gs img D { c with hand := x } L := by
  have hrd : ∀ k, rd k → (w.setCell ⟨g, 2, none⟩ (.int .i64 (x : Int))).heap[k]? = w.heap[k]? := fun k hk => Below.heap_setCell _ _ _ _ (fun e => h.apart.1 (by subst e; exact hk))
  have hsz : w.heap.size ≤ (w.setCell ⟨g, 2, none⟩ (.int .i64 (x : Int))).heap.size := by simp [World.setCell]
  exact h.turn hsz hrd (h.head.put 2 _) (h.body.far (Ne.symm h.ne_) _) h.frames rfl hx h.unlike h.paged rfl fun d hd => (h.data d hd).keep hsz hrd
theorem CC.hits_ (h : CC rd w g gs img D c L) (x : Nat) : CC rd (w.setCell ⟨g, 3, none⟩ (.int .i64 (x : Int))) g gs img D { c with hits := x } L := by
  have hrd : ∀ k, rd k → (w.setCell ⟨g, 3, none⟩ (.int .i64 (x : Int))).heap[k]? = w.heap[k]? := fun k hk => Below.heap_setCell _ _ _ _ (fun e => h.apart.1 (by subst e; exact hk))
  have hsz : w.heap.size ≤ (w.setCell ⟨g, 3, none⟩ (.int .i64 (x : Int))).heap.size := by simp [World.setCell]
  exact h.turn hsz hrd (h.head.put 3 _) (h.body.far (Ne.symm h.ne_) _) h.frames rfl h.hand h.unlike h.paged rfl fun d hd => (h.data d hd).keep hsz hrd
theorem CC.misses_ (h : CC rd w g gs img D c L) (x : Nat) : CC rd (w.setCell ⟨g, 4, none⟩ (.int .i64 (x : Int))) g gs img D { c with misses := x } L := by
  have hrd : ∀ k, rd k → (w.setCell ⟨g, 4, none⟩ (.int .i64 (x : Int))).heap[k]? = w.heap[k]? := fun k hk => Below.heap_setCell _ _ _ _ (fun e => h.apart.1 (by subst e; exact hk))
  have hsz : w.heap.size ≤ (w.setCell ⟨g, 4, none⟩ (.int .i64 (x : Int))).heap.size := by simp [World.setCell]
  exact h.turn hsz hrd (h.head.put 4 _) (h.body.far (Ne.symm h.ne_) _) h.frames rfl h.hand h.unlike h.paged rfl fun d hd => (h.data d hd).keep hsz hrd

/-- is a frame empty? -/
def isEmpty (f : Fr) : Bool := decide (f.page = -1)
def hasPage (n : Int) (f : Fr) : Bool := decide (0 ≤ f.page) && (f.page == n)
theorem CC.page_cases (h : CC rd w g gs img D c L) {i : Nat} {d : DF} (hd : D[i]? = some d) : d.f.page = -1 ∨ 0 ≤ d.f.page := (h.paged d.f (List.mem_of_getElem? (h.at_ hd))).imp id And.left

set_option maxRecDepth 100000 in
theorem cempty_any (h : CC rd w g gs img D c L) {i : Nat} {d : DF} (hd : D[i]? = some d) :
    Calls Tryd.prog 31 #[.pointer (some ⟨gs, i * 4, none⟩)] w fun e w' => e = .returned (.bool (isEmpty d.f)) ∧ w = w' := by
  have hz : w.cell? ⟨gs, i * 4 + 1, none⟩ = some d.z := h.field (j := 1) hd (by decide)
  have hc := h.page_cases hd
  have hh := h.data d (List.mem_of_getElem? hd)
  rcases hc with hp | hp
  · have hb : isEmpty d.f = true := by unfold isEmpty; simp [hp]
    rw [hh.none_ hp] at hz
    rw [hb]
    have hnil := fun W => Lib.run_eql_slice_nil (P := Tryd.prog) W 31 5 none 0 0 0 0 Tryd.underlying31
    clear hh h hd
    go_enter Tryd.func31, Tryd.ntmps31
    go_wp2_with fail
    go_ret
    exact ⟨rfl, rfl⟩
  · have hb : isEmpty d.f = false := by unfold isEmpty; simp; omega
    obtain ⟨ad, c', h1, _⟩ := hh.some_ hp
    rw [h1] at hz
    rw [hb]
    have hnil := fun W => Lib.run_eql_slice_nil (P := Tryd.prog) W 31 5 (some ad) 256 c' 0 0 Tryd.underlying31
    clear hh h hd
    go_enter Tryd.func31, Tryd.ntmps31
    go_wp2_with fail
    go_ret
    exact ⟨rfl, rfl⟩
set_option maxRecDepth 100000 in
theorem chas_any (h : CC rd w g gs img D c L) {i : Nat} {d : DF} (hd : D[i]? = some d) (n : Int) :
    Calls Tryd.prog 22 #[.pointer (some ⟨gs, i * 4, none⟩), .int .i64 n] w fun e w' => e = .returned (.bool (hasPage n d.f)) ∧ w = w' := by
  have HE := Lib.hid (cempty_any h hd)
  have hz : w.cell? ⟨gs, i * 4, none⟩ = some (.int .i64 (pg d.f)) := h.field (j := 0) hd (by decide)
  have hc := h.page_cases hd
  by_cases hp : pg d.f = n
  · have hd1 : (pg d.f == n) = true := by simpa using hp
    have hb : hasPage n d.f = !isEmpty d.f := by
      unfold hasPage isEmpty
      unfold pg at hp
      rcases hc with h1 | h1
      · simp [h1]
      · rw [if_neg (by omega)] at hp
        have h2 : ¬ d.f.page = -1 := by omega
        rw [decide_eq_true h1, decide_eq_false h2, hp]
        simp
    rw [hb]
    generalize isEmpty d.f = em at HE
    clear h hd hp hb hc
    go_enter Tryd.func22, Tryd.ntmps22
    go_wp2_with fail
    refine HE.out.mono ?_
    rintro e w' ⟨rfl, rfl⟩
    go_wp2_with fail
    go_ret
    exact ⟨rfl, rfl⟩
  · have hd1 : (pg d.f == n) = false := by simpa using hp
    have hb : hasPage n d.f = false := by
      unfold hasPage
      unfold pg at hp
      rcases hc with h1 | h1
      · simp [h1]
      · rw [if_neg (by omega)] at hp
        simp [h1, hp]
    rw [hb]
    clear h hd hp hb hc HE
    go_enter Tryd.func22, Tryd.ntmps22
    go_wp2_with fail
    go_ret
    exact ⟨rfl, rfl⟩
end
end Go.Proofs.YtjmajminfmcjcaaDoor
