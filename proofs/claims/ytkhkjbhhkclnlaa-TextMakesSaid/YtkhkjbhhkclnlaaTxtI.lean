/- What layer 8's laws ask of package text, as one word (TextI), over any 'At' (a collection lies at a pointer); the laws' opening. -/
import Derived.Test.YtkhkjbhhkclnlaaTxtRef
import Derived.Test.YtkhkjbhhkclnlaaCrcFirst
import Derived.Deep.CutBlock
import Derived.Deep.DeepCutAuto
namespace Go.Proofs.Ytkhkjbhhkclnlaa
open Go.RowKit

/-- may these be a collection? -/
def RightT (S : List Sec) : Prop := S.length ≤ 256 ∧ bytesT S ≤ 65536
/-- what Start answers. -/
def startI (S : List Sec) (d : Int) : Int := if 0 ≤ d ∧ d ≤ (S.length : Int) then ((offT S d.toNat : Nat) : Int) else -1
/-- what package text answers. At B w v S: a collection of the documents S lies at v, all of it in blocks from B on. -/
structure TextI (At : Nat → World → Value → List Sec → Prop) : Prop where
  keep_ : ∀ {B : Nat} {w w' : World} {v : Value} {S : List Sec}, At B w v S → w.heap.size ≤ w'.heap.size → (∀ k, B ≤ k → k < w.heap.size → w'.heap[k]? = w.heap[k]?) → At B w' v S
  ptr : ∀ {B : Nat} {w : World} {v : Value} {S : List Sec}, At B w v S → ∃ a, v = .pointer (some a)
  right : ∀ {B : Nat} {w : World} {v : Value} {S : List Sec}, At B w v S → RightT S ∧ ∀ x ∈ S, ∀ k, k < x.n → x.V k < 256
  new : ∀ (P : Option Addr) (c : Nat) (L : List Part) (w : World), L.length ≤ c → c ≤ maxLen → (P = none → L = [] ∧ c = 0) → Secs w w.heap.size P L → Calls Try.prog 8 #[.slice P L.length c] w fun e w' =>
    (RightT (docsP L) → ∃ v, e = .returned (.tuple #[v, .int .i64 0]) ∧ At w.heap.size w' v (docsP L)) ∧ (¬ RightT (docsP L) → e = .returned (.tuple #[.pointer none, .int .i64 80])) ∧ Below w.heap.size w w'
  docs : ∀ (B : Nat) (v : Value) (S : List Sec) (w : World), At B w v S → Calls Try.prog 11 #[v] w fun e w' => e = .returned (.int .i64 ((S.length : Nat) : Int)) ∧ Below w.heap.size w w'
  len_ : ∀ (B : Nat) (v : Value) (S : List Sec) (w : World), At B w v S → Calls Try.prog 12 #[v] w fun e w' => e = .returned (.int .i64 ((lenT S : Nat) : Int)) ∧ Below w.heap.size w w'
  alphabet : ∀ (B : Nat) (v : Value) (S : List Sec) (w : World), At B w v S → Calls Try.prog 13 #[v] w fun e w' => e = .returned (.int .i64 ((S.length + 256 : Nat) : Int)) ∧ Below w.heap.size w w'
  symbols : ∀ (B : Nat) (v : Value) (S : List Sec) (w : World), At B w v S → Calls Try.prog 15 #[v] w fun e w' => ∃ u, e = .returned u ∧ w'.ownsRow w.heap.size 3 1 u (lenT S) (icells (symI S) (lenT S)) ∧ Below w.heap.size w w'
  doc : ∀ (B : Nat) (v : Value) (S : List Sec) (p : Int) (w : World), (Lit.int .i64 p).wf = true → At B w v S → Calls Try.prog 16 #[v, .int .i64 p] w fun e w' => e = .returned (.tuple #[.int .i64 (docI S p).1, .int .i64 (docI S p).2]) ∧ Below w.heap.size w w'
  start : ∀ (B : Nat) (v : Value) (S : List Sec) (d : Int) (w : World), (Lit.int .i64 d).wf = true → At B w v S → Calls Try.prog 18 #[v, .int .i64 d] w fun e w' => e = .returned (.int .i64 (startI S d)) ∧ Below w.heap.size w w'
  bytes : ∀ (B : Nat) (v : Value) (S : List Sec) (d : Int) (w : World), (Lit.int .i64 d).wf = true → At B w v S → Calls Try.prog 19 #[v, .int .i64 d] w fun e w' =>
    (∀ x, 0 ≤ d → S[d.toNat]? = some x → ∃ u, e = .returned u ∧ w'.ownsRow w.heap.size 5 1 u x.n (ycells x.V x.n)) ∧ (¬ (0 ≤ d ∧ d < (S.length : Int)) → ∃ (A : Option Addr) (c : Nat), e = .returned (.slice A 0 c)) ∧ Below w.heap.size w w'
  pattern : ∀ (B : Nat) (v : Value) (S : List Sec) (A : Option Addr) (n c : Nat) (V : Nat → Nat) (w : World), At B w v S → n ≤ 4000000 → (A = none → n = 0 ∧ c = 0) → Bys w w.heap.size A n V → Calls Try.prog 21 #[v, .slice A n c] w fun e w' =>
    ∃ u, e = .returned u ∧ w'.ownsRow w.heap.size 3 1 u n (icells (fun k => ((S.length + V k : Nat) : Int)) n) ∧ Below w.heap.size w w'
  nilDocs : ∀ (w : World), Calls Try.prog 11 #[.pointer none] w fun e w' => e = .returned (.int .i64 0) ∧ Below w.heap.size w w'
  nilLen : ∀ (w : World), Calls Try.prog 12 #[.pointer none] w fun e w' => e = .returned (.int .i64 0) ∧ Below w.heap.size w w'
  nilAlphabet : ∀ (w : World), Calls Try.prog 13 #[.pointer none] w fun e w' => e = .returned (.int .i64 0) ∧ Below w.heap.size w w'
  nilSymbols : ∀ (w : World), Calls Try.prog 15 #[.pointer none] w fun e w' => (∃ (A : Option Addr) (c : Nat), e = .returned (.slice A 0 c)) ∧ Below w.heap.size w w'
  nilDoc : ∀ (p : Int) (w : World), Calls Try.prog 16 #[.pointer none, .int .i64 p] w fun e w' => e = .returned (.tuple #[.int .i64 (-1), .int .i64 (-1)]) ∧ Below w.heap.size w w'
  nilStart : ∀ (d : Int) (w : World), Calls Try.prog 18 #[.pointer none, .int .i64 d] w fun e w' => e = .returned (.int .i64 (-1)) ∧ Below w.heap.size w w'
  nilBytes : ∀ (d : Int) (w : World), Calls Try.prog 19 #[.pointer none, .int .i64 d] w fun e w' => (∃ (A : Option Addr) (c : Nat), e = .returned (.slice A 0 c)) ∧ Below w.heap.size w w'
  nilPattern : ∀ (A : Option Addr) (n c : Nat) (V : Nat → Nat) (w : World), n ≤ 4000000 → (A = none → n = 0 ∧ c = 0) → Bys w w.heap.size A n V → Calls Try.prog 21 #[.pointer none, .slice A n c] w fun e w' => (∃ (A' : Option Addr) (c' : Nat), e = .returned (.slice A' 0 c')) ∧ Below w.heap.size w w'
theorem TextI.keep {At : Nat → World → Value → List Sec → Prop} (I : TextI At) {B : Nat} {w w' : World} {v : Value} {S : List Sec} (h : At B w v S) (hb : Below w.heap.size w w') : At B w' v S :=
  I.keep_ h hb.size fun k _ hk => hb.block k hk

/-- the documents of the example. -/
def exT (g : Nat) : List Part := [⟨some ⟨g, 0, none⟩, 2, 2, ofList [97, 98]⟩, ⟨none, 0, 0, fun _ => 0⟩, ⟨some ⟨g + 1, 0, none⟩, 1, 1, ofList [98]⟩]
def t2 : Obj := .cells #[.int .u8 97, .int .u8 98] 5 (2, 3)
def t1 : Obj := .cells #[.int .u8 98] 5 (1, 2)
theorem exT_off (g : Nat) : offT (docsP (exT g)) 2 = 4 ∧ offT (docsP (exT g)) 3 = 6 ∧ lenT (docsP (exT g)) = 6 ∧ (docsP (exT g)).length = 3 := ⟨rfl, rfl, rfl, rfl⟩
theorem exT_sym (g : Nat) : ∀ p, p < 6 → symT (docsP (exT g)) p = [100, 101, 0, 1, 101, 2].getD p 0 := fun p hp => by
  have h : p = 0 ∨ p = 1 ∨ p = 2 ∨ p = 3 ∨ p = 4 ∨ p = 5 := by omega
  rcases h with rfl | rfl | rfl | rfl | rfl | rfl <;> rfl
theorem addr_add8 (g k : Nat) : (⟨g, 0, none⟩ : Addr).add k = ⟨g, k, none⟩ := by unfold Addr.add; split <;> simp_all
theorem exT_secs (w : World) : Secs (((w.alloc t2).alloc t1).alloc (.cells #[.slice (some ⟨w.heap.size, 0, none⟩) 2 2, .slice none 0 0, .slice (some ⟨w.heap.size + 1, 0, none⟩) 1 1] 24)) (w.heap.size + 3) (some ⟨w.heap.size + 1 + 1, 0, none⟩) (exT w.heap.size) := by
  have h1 : Bys (w.alloc t2) _ _ 2 (ofList [97, 98]) := bys_lit [97, 98] (by decide) w (2, 3)
  have h2 : Bys ((w.alloc t2).alloc t1) _ _ 1 (ofList [98]) := bys_lit [98] (by decide) (w.alloc t2) (1, 2)
  obtain ⟨w1, hw1⟩ : ∃ w1, w.alloc t2 = w1 := ⟨_, rfl⟩
  have hs1 : w1.heap.size = w.heap.size + 1 := by rw [← hw1, size_alloc]
  rw [hw1] at h1 h2 ⊢
  obtain ⟨w2, hw2⟩ : ∃ w2, w1.alloc t1 = w2 := ⟨_, rfl⟩
  have hs2 : w2.heap.size = w.heap.size + 2 := by rw [← hw2, size_alloc, hs1]
  have hb12 : Below w1.heap.size w1 w2 := by rw [← hw2]; exact (Below.refl _ _).alloc (Nat.le_refl _) _
  rw [hw2, hs1] at h2
  rw [hw2]
  have hb23 : Below w2.heap.size w2 (w2.alloc (.cells #[.slice (some ⟨w.heap.size, 0, none⟩) 2 2, .slice none 0 0, .slice (some ⟨w.heap.size + 1, 0, none⟩) 1 1] 24)) := (Below.refl _ _).alloc (Nat.le_refl _) _
  have hl := lies_new w2 24 [.slice (some ⟨w.heap.size, 0, none⟩) 2 2, .slice none 0 0, .slice (some ⟨w.heap.size + 1, 0, none⟩) 1 1]
  have hg : w2.heap.size = w.heap.size + 1 + 1 := by omega
  have h1' := ((h1.below (hb12.mono (by omega))).below (hb23.mono (by omega))).mono_ (B' := w.heap.size + 3) (by omega)
  have h2' := (h2.below (hb23.mono (by omega))).mono_ (B' := w.heap.size + 3) (by omega)
  rw [hg] at hl
  intro j p hj
  rcases j with _ | _ | _ | j
  · have hj : some _ = some p := hj
    cases hj
    refine ⟨_, rfl, by show w.heap.size + 1 + 1 < _; omega, ?_, Nat.le_refl _, by show 2 ≤ maxLen; unfold maxLen; omega, fun e => (by cases e), h1'⟩
    rw [addr_add8]
    exact hl.cell 0
  · have hj : some _ = some p := hj
    cases hj
    refine ⟨_, rfl, by show w.heap.size + 1 + 1 < _; omega, ?_, Nat.le_refl _, Nat.zero_le _, fun _ => ⟨rfl, rfl⟩, fun k hk => absurd hk (Nat.not_lt_zero k)⟩
    rw [addr_add8]
    exact hl.cell 1
  · have hj : some _ = some p := hj
    cases hj
    refine ⟨_, rfl, by show w.heap.size + 1 + 1 < _; omega, ?_, Nat.le_refl _, by show 1 ≤ maxLen; unfold maxLen; omega, fun e => (by cases e), h2'⟩
    rw [addr_add8]
    exact hl.cell 2
  · simp [exT] at hj
theorem ab_lit8 : bstr (ofList [97, 98]) 2 = (⟨#[97, 98]⟩ : ByteArray) := by decide +kernel
theorem its_six (w : World) (xs : List Int) (hx : ∀ x ∈ xs, 0 ≤ x ∧ x < 1000) : Its (w.alloc (.cells (xs.map fun x => Value.int .i64 x).toArray 3)) (w.heap.size + 1) (some ⟨w.heap.size, 0, none⟩) xs.length (fun k => xs.getD k 0) := fun k hk => by
  have hl := lies_new w 3 (xs.map fun x => Value.int .i64 x)
  have hm : xs.getD k 0 ∈ xs := by
    rw [List.getD_eq_getElem?_getD, List.getElem?_eq_getElem hk]
    exact List.getElem_mem _
  obtain ⟨h1, h2⟩ := hx _ hm
  refine ⟨⟨w.heap.size, 0, none⟩, rfl, Nat.lt_succ_self _, ?_, by show _ ≤ xs.getD k 0; omega, by show xs.getD k 0 ≤ _; omega⟩
  show _ = some (Value.int IntKind.i64 (xs.getD k 0))
  rw [addr_add8, hl.cell, List.getElem?_map, List.getD_eq_getElem?_getD, List.getElem?_eq_getElem hk]
  rfl

section
variable {At : Nat → World → Value → List Sec → Prop}
set_option maxRecDepth 100000 in
set_option maxHeartbeats 3200000 in
theorem tfirst_any (I : TextI At) (w : World) : Calls Try.prog 7 #[] w fun e w' => e = .returned (.bool true) ∧ Below w.heap.size w w' := by
  have HI := Lib.hid I
  have c1 := conv_lit w #[.int .u8 97, .int .u8 98] 2
  have c2 := conv_lit1 w (.cells #[.int .u8 97, .int .u8 98] 5 (2, 3)) #[.int .u8 98] 1
  have hsx := exT_secs w
  have hB3 : Below w.heap.size w (((w.alloc t2).alloc t1).alloc (.cells #[.slice (some ⟨w.heap.size, 0, none⟩) 2 2, .slice none 0 0, .slice (some ⟨w.heap.size + 1, 0, none⟩) 1 1] 24)) :=
    (((Below.refl _ _).alloc (Nat.le_refl _) _).alloc (by rw [size_alloc]; omega) _).alloc (by rw [size_alloc, size_alloc]; omega) _
  have HN := Lib.hid (HI.out.new (some ⟨w.heap.size + 1 + 1, 0, none⟩) 3 (exT w.heap.size) _ (Nat.le_refl 3) (by unfold maxLen; omega) (fun e => (by cases e)) (hsx.mono_ (by rw [size_alloc, size_alloc, size_alloc]; omega)))
  have HRt : Hid (RightT (docsP (exT w.heap.size))) := Lib.hid ⟨by show 3 ≤ 256; decide, by show 3 ≤ 65536; decide⟩
  have hof := exT_off w.heap.size
  have hsy := exT_sym w.heap.size
  have hx0 : (docsP (exT w.heap.size))[0]? = some ⟨2, ofList [97, 98]⟩ := rfl
  have hdoc : docI (docsP (exT w.heap.size)) 4 = (2, 0) := rfl
  unfold t2 t1 at HN hB3
  generalize docsP (exT w.heap.size) = S at HN HRt hof hsy hx0 hdoc
  have HS := Lib.hid hof
  have HSy := Lib.hid hsy
  have HX0 := Lib.hid hx0
  have HDc := Lib.hid hdoc
  clear I hsx hof hsy hx0 hdoc
  go_enter Try.func7, Try.ntmps7
  go_wp2_with fail
  refine HN.out.mono ?_
  rintro e w1 ⟨h1, _, hb1⟩
  obtain ⟨v, rfl, hAt⟩ := h1 HRt.out
  obtain ⟨a, rfl⟩ := HI.out.ptr hAt
  have hB1 := hB3.trans (hb1.mono hB3.size)
  have HAt := Lib.hid hAt
  have H1 := Lib.hid (HI.out.doc _ _ S 4 w1 (by decide) hAt)
  rw [HDc.out] at H1
  clear hAt h1 hb1 HN c1 c2 hB3
  go_wp2_with fail
  refine H1.out.mono ?_
  rintro e w2 ⟨rfl, hb2⟩
  have hB2 := hB1.trans (hb2.mono hB1.size)
  have HA2 := Lib.hid (HI.out.keep HAt.out hb2)
  have H2 := Lib.hid (HI.out.symbols _ _ S w2 HA2.out)
  clear H1 hb2 HAt
  go_wp2_with fail
  refine H2.out.mono ?_
  rintro e w3 ⟨u, rfl, hu, hb3⟩
  have hB3 := hB2.trans (hb3.mono hB2.size)
  rw [HS.out.2.2.1] at hu
  have HA3 := Lib.hid (HI.out.keep HA2.out hb3)
  obtain ⟨X, cx, rfl, hXi⟩ := Its.of_own hu (fun i hi => by
    unfold symI
    rw [HSy.out i hi]
    have h : i = 0 ∨ i = 1 ∨ i = 2 ∨ i = 3 ∨ i = 4 ∨ i = 5 := by omega
    rcases h with rfl | rfl | rfl | rfl | rfl | rfl <;> decide)
  have h6 := its_six w3 [100, 101, 0, 1, 101, 2] (by decide)
  have hb4 : Below w3.heap.size w3 (w3.alloc (.cells #[.int .i64 100, .int .i64 101, .int .i64 0, .int .i64 1, .int .i64 101, .int .i64 2] 3)) := (Below.refl _ _).alloc (Nat.le_refl _) _
  have hSm := refSame8_any X (some ⟨w3.heap.size, 0, none⟩) 6 6 cx 6 (symI S) (fun k => ([100, 101, 0, 1, 101, 2] : List Int).getD k 0) w3.heap.size (w3.heap.size + 1) (w3.alloc (.cells #[.int .i64 100, .int .i64 101, .int .i64 0, .int .i64 1, .int .i64 101, .int .i64 2] 3)) (by unfold maxLen; omega) (by rw [size_alloc]; omega) (by rw [size_alloc]; omega) (hXi.below hb4) h6
  have HSm := Lib.hid hSm
  have hB4 := hB3.trans (hb4.mono hB3.size)
  have HA4 := Lib.hid (HI.out.keep HA3.out hb4)
  clear hu hXi h6 hSm hb3 hb4 H2 HA2 HA3
  go_wp2_with fail
  refine HSm.out.mono ?_
  rintro e w5 ⟨b, rfl, hbi, hb5⟩
  obtain rfl : b = true := hbi.2 ⟨by trivial, fun i hi => by
    unfold symI
    rw [HSy.out i hi]
    have h : i = 0 ∨ i = 1 ∨ i = 2 ∨ i = 3 ∨ i = 4 ∨ i = 5 := by omega
    rcases h with rfl | rfl | rfl | rfl | rfl | rfl <;> rfl⟩
  have hB5 := hB4.trans (hb5.mono hB4.size)
  have HA5 := Lib.hid (HI.out.keep HA4.out hb5)
  have H5 := Lib.hid (HI.out.len_ _ _ S w5 HA5.out)
  rw [HS.out.2.2.1] at H5
  clear HSm hbi hb5 HA4
  go_wp2_with fail
  refine H5.out.mono ?_
  rintro e w6 ⟨rfl, hb6⟩
  have hB6 := hB5.trans (hb6.mono hB5.size)
  have HA6 := Lib.hid (HI.out.keep HA5.out hb6)
  have H6 := Lib.hid (HI.out.docs _ _ S w6 HA6.out)
  rw [HS.out.2.2.2] at H6
  clear H5 hb6 HA5
  go_wp2_with fail
  refine H6.out.mono ?_
  rintro e w7 ⟨rfl, hb7⟩
  have hB7 := hB6.trans (hb7.mono hB6.size)
  have HA7 := Lib.hid (HI.out.keep HA6.out hb7)
  have H7 := Lib.hid (HI.out.alphabet _ _ S w7 HA7.out)
  rw [HS.out.2.2.2] at H7
  clear H6 hb7 HA6
  go_wp2_with fail
  refine H7.out.mono ?_
  rintro e w8 ⟨rfl, hb8⟩
  have hB8 := hB7.trans (hb8.mono hB7.size)
  have HA8 := Lib.hid (HI.out.keep HA7.out hb8)
  have H8 := Lib.hid (HI.out.start _ _ S 2 w8 (by decide) HA8.out)
  have hs2 : startI S 2 = 4 := by unfold startI; rw [if_pos (by rw [HS.out.2.2.2]; decide)]; show ((offT S 2 : Nat) : Int) = 4; rw [HS.out.1]; rfl
  rw [hs2] at H8
  clear H7 hb8 HA7 hs2
  go_wp2_with fail
  refine H8.out.mono ?_
  rintro e w9 ⟨rfl, hb9⟩
  have hB9 := hB8.trans (hb9.mono hB8.size)
  have HA9 := Lib.hid (HI.out.keep HA8.out hb9)
  have H9 := Lib.hid (HI.out.start _ _ S 3 w9 (by decide) HA9.out)
  have hs3 : startI S 3 = 6 := by unfold startI; rw [if_pos (by rw [HS.out.2.2.2]; decide)]; show ((offT S 3 : Nat) : Int) = 6; rw [HS.out.2.1]; rfl
  rw [hs3] at H9
  clear H8 hb9 HA8 hs3
  go_wp2_with fail
  refine H9.out.mono ?_
  rintro e w10 ⟨rfl, hb10⟩
  have hB10 := hB9.trans (hb10.mono hB9.size)
  have HA10 := Lib.hid (HI.out.keep HA9.out hb10)
  have H10 := Lib.hid (HI.out.bytes _ _ S 0 w10 (by decide) HA10.out)
  clear H9 hb10 HA9
  go_wp2_with fail
  refine H10.out.mono ?_
  rintro e w11 ⟨hby, _, hb11⟩
  obtain ⟨u, rfl, hu⟩ := hby _ (by decide) HX0.out
  have hB11 := hB10.trans (hb11.mono hB10.size)
  obtain ⟨Y, cy, rfl, _, _, hYb⟩ := row_bys hu (fun k hk => by
    have hk : k < 2 := hk
    have h : k = 0 ∨ k = 1 := by omega
    rcases h with rfl | rfl <;> decide)
  have hcv := hYb.conv cy
  have hab : bstr (ofList [97, 98]) 2 = (⟨#[97, 98]⟩ : ByteArray) := ab_lit8
  rw [hab] at hcv
  clear H10 hu hYb hby
  go_wp2_with fail
  go_ret
  exact ⟨rfl, hB11⟩
end
end Go.Proofs.Ytkhkjbhhkclnlaa
