/- What layer 6's laws ask of package image, as one word (ImgI), over any 'At' (an image lies at a pointer); the laws' opening and their reading of all sections, over it. -/
import Derived.Test.YtbepoohphmicdaaDoorImgOpen
import Derived.Test.YtbepoohphmicdaaDoorSecsArg
import Derived.Test.YtbepoohphmicdaaDoorTurned
import Derived.Deep.CutBlock
import Derived.Deep.DeepCutAuto
namespace Go.Proofs.YtbepoohphmicdaaDoor
open Go.RowKit

/-- how long a section is, and its first page: 0 if there is none. -/
def sizeI (L : List Sec) (s : Int) : Nat := if 0 ≤ s ∧ s < (L.length : Int) then lenAt L s.toNat else 0
def firstI (L : List Sec) (s : Int) : Nat := if 0 ≤ s ∧ s < (L.length : Int) then startAt L s.toNat else 0
/-- what package image answers. T: what it asks of the world (its tables); At B w v L: an image of the sections L lies at v, all of it in blocks from B on. -/
structure ImgI (T : World → Prop) (At : Nat → World → Value → List Sec → Prop) : Prop where
  tk : ∀ {w w' : World}, T w → Below w.heap.size w w' → T w'
  keep_ : ∀ {B : Nat} {w w' : World} {v : Value} {L : List Sec}, At B w v L → w.heap.size ≤ w'.heap.size → (∀ k, B ≤ k → k < w.heap.size → w'.heap[k]? = w.heap[k]?) → At B w' v L
  ptr : ∀ {B : Nat} {w : World} {v : Value} {L : List Sec}, At B w v L → ∃ a, v = .pointer (some a)
  fits : ∀ {B : Nat} {w : World} {v : Value} {L : List Sec}, At B w v L → Fits L
  build : ∀ (P : Option Addr) (c : Nat) (L : List Part) (w : World), T w → L.length ≤ c → c ≤ maxLen → (P = none → L = [] ∧ c = 0) → Secs w w.heap.size P L → Calls Tryd.prog 10 #[.slice P L.length c] w (BuildPost w L)
  open_ : ∀ (A : Option Addr) (n c : Nat) (V : Nat → Nat) (w : World), T w → n ≤ 4000000 → (A = none → n = 0 ∧ c = 0) → n ≤ c → c ≤ maxLen → Bys w w.heap.size A n V → Calls Tryd.prog 12 #[.slice A n c] w fun e w' =>
    ((∃ L, IsImage n V L) → ∃ v L, IsImage n V L ∧ e = .returned (.tuple #[v, .int .i64 0]) ∧ At w.heap.size w' v L) ∧ ((¬ ∃ L, IsImage n V L) → e = .returned (.tuple #[.pointer none, .int .i64 10])) ∧ Below w.heap.size w w'
  sections : ∀ (B : Nat) (v : Value) (L : List Sec) (w : World), T w → At B w v L → Calls Tryd.prog 22 #[v] w fun e w' => e = .returned (.int .i64 ((L.length : Nat) : Int)) ∧ Below w.heap.size w w'
  size : ∀ (B : Nat) (v : Value) (L : List Sec) (s : Int) (w : World), (Lit.int .i64 s).wf = true → T w → At B w v L → Calls Tryd.prog 18 #[v, .int .i64 s] w fun e w' => e = .returned (.int .i64 ((sizeI L s : Nat) : Int)) ∧ Below w.heap.size w w'
  first : ∀ (B : Nat) (v : Value) (L : List Sec) (s : Int) (w : World), (Lit.int .i64 s).wf = true → T w → At B w v L → Calls Tryd.prog 17 #[v, .int .i64 s] w fun e w' => e = .returned (.int .i64 ((firstI L s : Nat) : Int)) ∧ Below w.heap.size w w'
  pages : ∀ (B : Nat) (v : Value) (L : List Sec) (w : World), T w → At B w v L → Calls Tryd.prog 15 #[v] w fun e w' => e = .returned (.int .i64 ((allPages L : Nat) : Int)) ∧ Below w.heap.size w w'
  page : ∀ (B : Nat) (v : Value) (L : List Sec) (s : Int) (w : World), (Lit.int .i64 s).wf = true → T w → At B w v L → Calls Tryd.prog 16 #[v, .int .i64 s] w fun e w' =>
    ((0 ≤ s ∧ s < (allPages L : Int)) → ∃ u, e = .returned (.tuple #[u, .int .i64 0]) ∧ w'.ownsRow w.heap.size 5 1 u 256 (ycells (fun k => imageOf L (264 * s.toNat + k)) 256)) ∧ (¬ (0 ≤ s ∧ s < (allPages L : Int)) → e = .returned (.tuple #[.slice none 0 0, .int .i64 222])) ∧ Below w.heap.size w w'
  section_ : ∀ (B : Nat) (v : Value) (L : List Sec) (s : Int) (w : World), (Lit.int .i64 s).wf = true → T w → At B w v L → Calls Tryd.prog 19 #[v, .int .i64 s] w fun e w' =>
    (∀ x, 0 ≤ s → L[s.toNat]? = some x → ∃ u, e = .returned u ∧ w'.ownsRow w.heap.size 5 1 u x.n (ycells x.V x.n)) ∧ (¬ (0 ≤ s ∧ s < (L.length : Int)) → ∃ (A : Option Addr) (c : Nat), e = .returned (.slice A 0 c)) ∧ Below w.heap.size w w'
  nilSections : ∀ (w : World), Calls Tryd.prog 22 #[.pointer none] w fun e w' => e = .returned (.int .i64 0) ∧ Below w.heap.size w w'
  nilPages : ∀ (w : World), Calls Tryd.prog 15 #[.pointer none] w fun e w' => e = .returned (.int .i64 0) ∧ Below w.heap.size w w'
  nilSize : ∀ (s : Int) (w : World), Calls Tryd.prog 18 #[.pointer none, .int .i64 s] w fun e w' => e = .returned (.int .i64 0) ∧ Below w.heap.size w w'
  nilFirst : ∀ (s : Int) (w : World), Calls Tryd.prog 17 #[.pointer none, .int .i64 s] w fun e w' => e = .returned (.int .i64 0) ∧ Below w.heap.size w w'
  nilPage : ∀ (s : Int) (w : World), Calls Tryd.prog 16 #[.pointer none, .int .i64 s] w fun e w' => e = .returned (.tuple #[.slice none 0 0, .int .i64 1]) ∧ Below w.heap.size w w'
  nilSection : ∀ (s : Int) (w : World), Calls Tryd.prog 19 #[.pointer none, .int .i64 s] w fun e w' => e = .returned (.slice none 0 0) ∧ Below w.heap.size w w'

theorem ImgI.keep {T : World → Prop} {At : Nat → World → Value → List Sec → Prop} (I : ImgI T At) {B : Nat} {w w' : World} {v : Value} {L : List Sec} (h : At B w v L) (hb : Below w.heap.size w w') : At B w' v L :=
  I.keep_ h hb.size fun k _ hk => hb.block k hk
/-- an image stands where an older block has turned. -/
theorem ImgI.far {T : World → Prop} {At : Nat → World → Value → List Sec → Prop} (I : ImgI T At) {B : Nat} {w : World} {v : Value} {L : List Sec} (h : At B w v L) {p : Addr} (hp : p.block < B) (u : Value) : At B (w.setCell p u) v L :=
  I.keep_ h (by simp [World.setCell]) fun k hk _ => Below.heap_setCell w p u k (by omega)

theorem same_sp {L L' : List Part} (h : SameS (secsP L) (secsP L')) : SameP L L' := ⟨by have := h.1; rw [secsP_length, secsP_length] at this; exact this, fun i x y h1 h2 => by
  obtain ⟨e1, e2⟩ := h.2 i _ _ (secsP_at h1) (secsP_at h2)
  have e1 : x.n = y.n := e1
  rw [← e1]
  exact bstr_congr e2⟩
/-- sections that are the same as strings are the same. -/
theorem sp_same {w w' : World} {B B' : Nat} {P P' : Option Addr} {L L' : List Part} (h : Secs w B P L) (h' : Secs w' B' P' L') (hs : SameP L L') : SameS (secsP L) (secsP L') := ⟨by rw [secsP_length, secsP_length]; exact hs.1, fun i x y h1 h2 => by
  have hi := (List.getElem?_eq_some_iff.1 h1).1
  have hi' := (List.getElem?_eq_some_iff.1 h2).1
  rw [secsP_length] at hi hi'
  obtain ⟨p, hp⟩ : ∃ p, L[i]? = some p := ⟨_, List.getElem?_eq_getElem hi⟩
  obtain ⟨q, hq⟩ : ∃ q, L'[i]? = some q := ⟨_, List.getElem?_eq_getElem hi'⟩
  rw [secsP_at hp] at h1
  rw [secsP_at hq] at h2
  cases h1
  cases h2
  obtain ⟨_, _, _, _, _, _, _, b1⟩ := h i p hp
  obtain ⟨_, _, _, _, _, _, _, b2⟩ := h' i q hq
  exact bstr_same (fun k hk => (b1 k hk).elim fun _ h => h.2.2.2) (fun k hk => (b2 k hk).elim fun _ h => h.2.2.2) (hs.2 i p q hp hq)⟩

section
variable {T : World → Prop} {At : Nat → World → Value → List Sec → Prop}
set_option maxRecDepth 100000 in
set_option maxHeartbeats 1600000 in
/-- all sections of an image, read one by one. -/
theorem read_any (I : ImgI T At) (B : Nat) (v : Value) (S : List Sec) (w : World) (hT : T w) (hA : At B w v S) :
    Calls Tryd.prog 14 #[v] w fun e w' => ∃ (P : Option Addr) (c : Nat) (L : List Part), e = .returned (.slice P L.length c) ∧ L.length ≤ 60 ∧ Secs w' w'.heap.size P L ∧ SameS (secsP L) S ∧ Below w.heap.size w w' := by
  obtain ⟨a, rfl⟩ := I.ptr hA
  have HI := Lib.hid I
  have HT := Lib.hid hT
  have HA := Lib.hid hA
  have HF := Lib.hid (I.fits hA)
  have HS := Lib.hid (I.sections _ _ S w hT hA)
  obtain ⟨k, hk⟩ : ∃ k, S.length = k := ⟨_, rfl⟩
  have hk60 : k ≤ 60 := by rw [← hk]; exact HF.out.few
  have HK := Lib.hid hk
  rw [hk] at HS
  clear hk hT hA I
  go_enter Tryd.func14, Tryd.ntmps14
  go_wp2_with fail
  refine HS.out.mono ?_
  rintro e w0 ⟨rfl, hb0⟩
  have hbs0 := hb0.size
  clear HS
  go_wp2_with fail
  go_loopw [3, 7] (fun o v wr => ∃ (i : Nat) (Lp : List Part), i ≤ k ∧ v = .int .i64 (i : Int) ∧ Hid (wr.ownsRow w.heap.size 25 1 o i (pcells Lp)) ∧ Hid (Lp.length = i) ∧ Hid (∀ (q : Nat) (p : Part) (x : Sec), Lp[q]? = some p → S[q]? = some x → p.n = x.n ∧ (∀ k, k < p.n → p.V k = x.V k)) ∧ Hid (∀ (q : Nat) (p : Part), Lp[q]? = some p → OwnPart wr w.heap.size p) ∧ Below w.heap.size w wr) (fun _ v _ => k - (intOf v).toNat)
  case atStart => exact ⟨0, [], Nat.zero_le _, rfl, Lib.hid (World.ownsRow_nil w0 _ _ _), Lib.hid rfl, Lib.hid (fun q p x h => by simp at h), Lib.hid (fun q p h => by simp at h), hb0⟩
  case round =>
    obtain ⟨i, Lp, hi, rfl, hrow, hlen, hsame, hparts, hb⟩ := hrel
    by_cases hlt : i < k
    · have hlti : (i : Int) < (k : Int) := by omega
      obtain ⟨x, hx⟩ : ∃ x, S[i]? = some x := ⟨_, List.getElem?_eq_getElem (by rw [HK.out]; exact hlt)⟩
      have HX := Lib.hid hx
      have hxV := Lib.hid (HF.out.bytes x (List.mem_of_getElem? hx))
      have HSec := Lib.hid (HI.out.section_ _ _ S (i : Int) wr (by simp [Lit.wf, IntKind.min, IntKind.max, IntKind.bits, IntKind.signed]; omega) (HI.out.tk HT.out hb) (HI.out.keep HA.out hb))
      clear hx
      go_wp2_with fail
      refine HSec.out.mono ?_
      rintro e w1 ⟨h1, h2, hb1⟩
      obtain ⟨u, rfl, hu⟩ := h1 x (by omega) HX.out
      have hB1 := hb.trans (hb1.mono hb.size)
      have hs1 := hB1.size
      obtain ⟨Z, cz, rfl, hZc, hZA, hpart⟩ := own_cut hu (Nat.le_refl _) hxV.out
      have hrow1 := Lib.hid (ownsRow_keep hrow.out hb1)
      have HPt := Lib.hid (hpart.lower hb.size)
      have hi4 : i ≤ 4194304 := by omega
      have HB1 := Lib.hid hb1
      clear h1 h2 hu hpart hZA hb1 HSec
      go_wp2_with (at_builtin; refine step_append_slice rfl (.tmp 10) (.tmp 14) rfl rfl hrow1.out Z x.n cz rfl hs1 hi4 ?_; intro v6 w6 hown6 hgr6 hb6)
      go_roundw
      case rel =>
        refine ⟨i + 1, Lp ++ [⟨Z, x.n, cz, x.V⟩], by omega, by go_num, Lib.hid ?_, Lib.hid (by rw [List.length_append, hlen.out]; rfl), Lib.hid (fun q p y hq hy => ?_), Lib.hid (fun q p hq => ?_), hB1.trans hb6⟩
        · rw [pcells_snoc]
          exact hown6.out
        · by_cases e : q < i
          · rw [List.getElem?_append_left (by rw [hlen.out]; exact e)] at hq
            exact hsame.out q p y hq hy
          · have hxl := (List.getElem?_eq_some_iff.1 hq).1
            rw [List.length_append, hlen.out] at hxl
            obtain rfl : q = i := by
              have : ([⟨Z, x.n, cz, x.V⟩] : List Part).length = 1 := rfl
              omega
            rw [List.getElem?_append_right (by rw [hlen.out]; exact Nat.le_refl _), hlen.out, Nat.sub_self] at hq
            rw [HX.out] at hy
            cases hq
            cases hy
            exact ⟨rfl, fun _ _ => rfl⟩
        · by_cases e : q < i
          · rw [List.getElem?_append_left (by rw [hlen.out]; exact e)] at hq
            exact ((hparts.out q p hq).below HB1.out).grown hrow1.out hgr6.out
          · have hxl := (List.getElem?_eq_some_iff.1 hq).1
            rw [List.length_append, hlen.out] at hxl
            obtain rfl : q = i := by
              have : ([⟨Z, x.n, cz, x.V⟩] : List Part).length = 1 := rfl
              omega
            rw [List.getElem?_append_right (by rw [hlen.out]; exact Nat.le_refl _), hlen.out, Nat.sub_self] at hq
            cases hq
            exact HPt.out.grown hrow1.out hgr6.out
      case measure => simp [intOf]; omega
    · obtain rfl : k = i := by omega
      obtain ⟨PP, cc, rfl, hsecs⟩ := row_secs hrow.out hlen.out hparts.out
      have HSE := Lib.hid hsecs
      clear hsecs
      go_wp2_with fail
      go_ret
      exact ⟨PP, cc, Lp, rfl, by rw [hlen.out]; exact hk60, HSE.out, ⟨by rw [secsP_length, hlen.out, HK.out], fun q x y h1 h2 => by
        have hq := (List.getElem?_eq_some_iff.1 h1).1
        rw [secsP_length] at hq
        obtain ⟨p, hp⟩ : ∃ p, Lp[q]? = some p := ⟨_, List.getElem?_eq_getElem hq⟩
        rw [secsP_at hp] at h1
        cases h1
        exact hsame.out q p y hp h2⟩, hb⟩
end
end Go.Proofs.YtbepoohphmicdaaDoor
