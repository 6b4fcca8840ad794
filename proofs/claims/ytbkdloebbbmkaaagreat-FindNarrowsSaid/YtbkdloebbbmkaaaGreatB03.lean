/- Sections as they lie: a slice of slices of bytes; the document's Size and Same of them. A collection of documents as one row of symbols: where each document's symbols begin, of which document each is, what it is. The document's functions of layer 8: which documents may be a collection, its symbols, of which document each is. The contracts of the document's own answers for layer 4: a sum bit by bit, and the sum behind bytes. The contract of the opening of layer 4's laws: it is true, and leaves what was there as it was. What layer 9's laws ask of package suffix, as one word (SufI); the laws' opening. Small facts of ints that came in: that each is an int; a number below another out of any int. A slice of ints that came in, with all that is asked of one that is read. An array of integers that came in, by value. Where a pattern stands in a list; the range of its suffixes; a list whose last number is there once: plain: no program is named here. Append to a row of ints of the call's own, beside other rows: where the new row lies, and that nothing but the row itself has turned. The document's functions of layer 15: does a pattern stand at a place, all places, the range of suffixes; is the last number there once; the laws' own lists. The lists that layer 15's laws make: a list whose last number is there once, and its suffixes in order. What layer 15's laws ask of package find, as one word (FindI), over any 'At' (a finder lies at a pointer); the laws' opening. How many numbers two suffixes begin with in common; the least of a range; in order, the least between two is what these have in common; the unlike parts of a list, counted in any order of its suffixes. Plain: no program is named here. -/
import Derived.Test.YtbkdloebbbmkaaaGreatB02
import Derived.Deep.QuietTactic
import Derived.BigQuiet
import Derived.Lib.SmallJoins
import Derived.Lib.SlBytesConst
import Derived.Deep.CutBlock
import Derived.Deep.DeepCutAuto
import Derived.Test.YtbkdloebbbmkaaaGreatB01
import Derived.Deep.AppendLies
import Derived.Deep.DrawnRows
namespace Go.Proofs.YtbkdloebbbmkaaaGreat
open Go.RowKit

/-- a part of memory as a section. -/
def Part.sec (p : Part) : Sec := ⟨p.n, p.V⟩
/-- slices of bytes, side by side. -/
def Secs (w : World) (B : Nat) (P : Option Addr) (L : List Part) : Prop :=
  ∀ (j : Nat) (p : Part), L[j]? = some p → ∃ ad : Addr, P = some ad ∧ ad.block < B ∧ w.cell? (ad.add j) = some (.slice p.A p.n p.c) ∧ p.n ≤ p.c ∧ p.c ≤ maxLen ∧ (p.A = none → p.n = 0 ∧ p.c = 0) ∧ Bys w B p.A p.n p.V
theorem Secs.below {w w' : World} {B : Nat} {P : Option Addr} {L : List Part} (h : Secs w B P L) (hb : Below B w w') : Secs w' B P L := fun j p hj => by
  obtain ⟨ad, h1, h2, h3, h4, h5, h6, h7⟩ := h j p hj
  exact ⟨ad, h1, h2, (hb.cell (by rw [add_block]; exact h2)).trans h3, h4, h5, h6, h7.below hb⟩
theorem Secs.mono_ {w : World} {B B' : Nat} {P : Option Addr} {L : List Part} (h : Secs w B P L) (hB : B ≤ B') : Secs w B' P L := fun j p hj => by
  obtain ⟨ad, h1, h2, h3, h4, h5, h6, h7⟩ := h j p hj
  exact ⟨ad, h1, by omega, h3, h4, h5, h6, h7.mono_ hB⟩

/-- the document's size of sections, from a number on. -/
def sizeFrom (n : Nat) : List Part → Nat
  | [] => n
  | p :: L => if 2000000 < n ∨ 2000000 < p.n then 2000001 else sizeFrom (n + (p.n + 1)) L
theorem sizeFrom_step (n : Nat) (L : List Part) (i : Nat) (p : Part) (h : L[i]? = some p) (h1 : ¬ 2000000 < n) (h2 : ¬ 2000000 < p.n) : sizeFrom n (L.drop i) = sizeFrom (n + (p.n + 1)) (L.drop (i + 1)) := by
  rw [List.drop_eq_getElem?_toList_append, h]
  show (if 2000000 < n ∨ 2000000 < p.n then 2000001 else sizeFrom (n + (p.n + 1)) (L.drop (i + 1))) = _
  rw [if_neg (by omega)]
theorem sizeFrom_over (n : Nat) (L : List Part) (i : Nat) (p : Part) (h : L[i]? = some p) (h1 : 2000000 < n ∨ 2000000 < p.n) : sizeFrom n (L.drop i) = 2000001 := by
  rw [List.drop_eq_getElem?_toList_append, h]
  show sizeFrom n (p :: L.drop (i + 1)) = _
  unfold sizeFrom
  rw [if_pos h1]
theorem sizeFrom_is : ∀ (L : List Part) (n : Nat), sizeFrom n L ≤ 2000000 → sizeFrom n L = n + (L.map fun p => p.n + 1).sum
  | [], n, _ => by simp [sizeFrom]
  | p :: L, n, h => by
    unfold sizeFrom at h ⊢
    split at h
    · omega
    · rename_i h1
      rw [if_neg h1, sizeFrom_is L _ h]
      simp
      omega
theorem sum_mem : ∀ (L : List Part) (p : Part), p ∈ L → p.n + 1 ≤ (L.map fun p => p.n + 1).sum
  | [], p, h => by cases h
  | q :: L, p, h => by
    rcases List.mem_cons.1 h with rfl | h
    · simp
    · have := sum_mem L p h
      simp
      omega
theorem sum_length : ∀ L : List Part, L.length ≤ (L.map fun p => p.n + 1).sum
  | [] => by simp
  | q :: L => by
    have := sum_length L
    simp
    omega

/-- two lists of sections alike. -/
def SameP (L L' : List Part) : Prop := L.length = L'.length ∧ ∀ (i : Nat) (x y : Part), L[i]? = some x → L'[i]? = some y → bstr x.V x.n = bstr y.V y.n

end Go.Proofs.YtbkdloebbbmkaaaGreat

namespace Go.Proofs.YtbkdloebbbmkaaaGreat

/-- documents that lie, as lists of bytes. -/
def docsP (L : List Part) : List Sec := L.map Part.sec
theorem docsP_length (L : List Part) : (docsP L).length = L.length := by unfold docsP; simp
theorem docsP_at {L : List Part} {i : Nat} {p : Part} (h : L[i]? = some p) : (docsP L)[i]? = some p.sec := by unfold docsP; rw [List.getElem?_map, h]; rfl
/-- how many bytes, of the first d documents. -/
def bytesT (S : List Sec) : Nat := (S.map Sec.n).sum
/-- where document d's symbols begin. -/
def offT (S : List Sec) (d : Nat) : Nat := ((S.take d).map fun x => x.n + 1).sum
/-- how many symbols. -/
def lenT (S : List Sec) : Nat := offT S S.length
theorem offT_zero (S : List Sec) : offT S 0 = 0 := rfl
theorem offT_succ {S : List Sec} {d : Nat} {x : Sec} (h : S[d]? = some x) : offT S (d + 1) = offT S d + (x.n + 1) := by
  unfold offT
  rw [List.take_add_one, h]
  simp
theorem offT_cons (x : Sec) (S : List Sec) (d : Nat) : offT (x :: S) (d + 1) = x.n + 1 + offT S d := by
  unfold offT
  simp
theorem offT_mono {S : List Sec} : ∀ {e d : Nat}, d ≤ e → e ≤ S.length → offT S d ≤ offT S e
  | 0, d, h, _ => by
    obtain rfl : d = 0 := by omega
    exact Nat.le_refl _
  | e + 1, d, h, hl => by
    by_cases hd : d = e + 1
    · subst hd; exact Nat.le_refl _
    · obtain ⟨x, hx⟩ : ∃ x, S[e]? = some x := ⟨_, List.getElem?_eq_getElem (by omega)⟩
      rw [offT_succ hx]
      have := offT_mono (S := S) (e := e) (d := d) (by omega) (by omega)
      omega
theorem offT_in {S : List Sec} {d : Nat} {x : Sec} (h : S[d]? = some x) : offT S d + (x.n + 1) ≤ lenT S := by
  rw [← offT_succ h]
  exact offT_mono (by have := (List.getElem?_eq_some_iff.1 h).1; omega) (Nat.le_refl _)
theorem lenT_is : ∀ S : List Sec, lenT S = bytesT S + S.length
  | [] => rfl
  | x :: S => by
    have h := lenT_is S
    unfold lenT at h ⊢
    rw [List.length_cons, offT_cons, h]
    unfold bytesT
    simp
    omega
theorem bytesT_take {S : List Sec} {d : Nat} {x : Sec} (h : S[d]? = some x) : bytesT (S.take (d + 1)) = bytesT (S.take d) + x.n := by
  unfold bytesT
  rw [List.take_add_one, h]
  simp
theorem bytesT_le {S : List Sec} : ∀ (d : Nat), bytesT (S.take d) ≤ bytesT S := fun d => by
  have h := List.take_append_drop d S
  have e : bytesT S = bytesT (S.take d) + bytesT (S.drop d) := by
    unfold bytesT
    rw [← List.sum_append, ← List.map_append, h]
  omega
/-- of which document the symbol at p is, and how far it stands in it. -/
def locT : List Sec → Nat → Option (Nat × Nat)
  | [], _ => none
  | x :: S, p => if p ≤ x.n then some (0, p) else (locT S (p - (x.n + 1))).map fun (d, o) => (d + 1, o)
theorem locT_at : ∀ {S : List Sec} {d o : Nat} {x : Sec}, S[d]? = some x → o ≤ x.n → locT S (offT S d + o) = some (d, o)
  | [], d, o, x, h, _ => by simp at h
  | y :: S, 0, o, x, h, ho => by
    simp at h
    subst h
    rw [offT_zero, Nat.zero_add]
    unfold locT
    rw [if_pos ho]
  | y :: S, d + 1, o, x, h, ho => by
    rw [offT_cons]
    unfold locT
    rw [if_neg (by omega), show y.n + 1 + offT S d + o - (y.n + 1) = offT S d + o by omega, locT_at (S := S) (by simpa using h) ho]
    rfl
theorem locT_some : ∀ {S : List Sec} {p : Nat}, p < lenT S → ∃ d o x, S[d]? = some x ∧ o ≤ x.n ∧ p = offT S d + o
  | [], p, h => by simp [lenT, offT] at h
  | y :: S, p, h => by
    by_cases hp : p ≤ y.n
    · exact ⟨0, p, y, rfl, hp, by rw [offT_zero]; omega⟩
    · unfold lenT at h
      rw [List.length_cons, offT_cons] at h
      obtain ⟨d, o, x, h1, h2, h3⟩ := locT_some (S := S) (p := p - (y.n + 1)) (by unfold lenT; omega)
      exact ⟨d + 1, o, x, by simpa using h1, h2, by rw [offT_cons]; omega⟩
theorem locT_none : ∀ {S : List Sec} {p : Nat}, lenT S ≤ p → locT S p = none
  | [], _, _ => rfl
  | y :: S, p, h => by
    unfold lenT at h
    rw [List.length_cons, offT_cons] at h
    unfold locT
    rw [if_neg (by omega), locT_none (S := S) (by unfold lenT; omega)]
    rfl
/-- the symbol at p. -/
def symT (S : List Sec) (p : Nat) : Nat := match locT S p with
  | some (d, o) => match S[d]? with
    | some x => if o < x.n then S.length + x.V o else d
    | none => 0
  | none => 0
theorem sym_byte {S : List Sec} {d o : Nat} {x : Sec} (h : S[d]? = some x) (ho : o < x.n) : symT S (offT S d + o) = S.length + x.V o := by
  unfold symT
  rw [locT_at h (by omega)]
  dsimp only
  rw [h]
  dsimp only
  rw [if_pos ho]
theorem sym_end {S : List Sec} {d : Nat} {x : Sec} (h : S[d]? = some x) : symT S (offT S d + x.n) = d := by
  unfold symT
  rw [locT_at h (Nat.le_refl _)]
  dsimp only
  rw [h]
  dsimp only
  rw [if_neg (by omega)]
/-- what Doc answers. -/
def docI (S : List Sec) (p : Int) : Int × Int := if p < 0 then (-1, -1) else match locT S p.toNat with
  | some (d, o) => ((d : Int), (o : Int))
  | none => (-1, -1)
theorem sym_lt {S : List Sec} (hS : ∀ x ∈ S, ∀ k, k < x.n → x.V k < 256) {p : Nat} (hp : p < lenT S) : symT S p < S.length + 256 := by
  obtain ⟨d, o, x, h1, h2, rfl⟩ := locT_some hp
  have hd := (List.getElem?_eq_some_iff.1 h1).1
  by_cases ho : o < x.n
  · rw [sym_byte h1 ho]
    have := hS x (List.mem_of_getElem? h1) o ho
    omega
  · obtain rfl : o = x.n := by omega
    rw [sym_end h1]
    omega
end Go.Proofs.YtbkdloebbbmkaaaGreat

namespace Go.Proofs.YtbkdloebbbmkaaaGreat
open Go.RowKit

theorem docs_len {L : List Part} {i : Nat} {p : Part} (h : L[i]? = some p) : bytesT ((docsP L).take (i + 1)) = bytesT ((docsP L).take i) + p.n := bytesT_take (docsP_at h)
set_option maxRecDepth 100000 in
set_option maxHeartbeats 800000 in
/-- two lists of ints alike. -/
theorem refSame8_any (A A' : Option Addr) (n n' c c' : Nat) (V V' : Nat → Int) (B B' : Nat) (w : World) (hn : n ≤ maxLen) (hB : B ≤ w.heap.size) (hB' : B' ≤ w.heap.size) (ho : Its w B A n V) (ho' : Its w B' A' n' V') :
    Calls Tryz.prog 14 #[.slice A n c, .slice A' n' c'] w fun e w' => ∃ b, e = .returned (.bool b) ∧ (b = true ↔ (n = n' ∧ ∀ i, i < n → V i = V' i)) ∧ Below w.heap.size w w' := by
  have HO := Lib.hid (ho.mono_ hB)
  have HO' := Lib.hid (ho'.mono_ hB')
  have hkl : n ≤ 9223372036854775807 := by unfold maxLen at hn; omega
  clear ho ho' hn
  by_cases hnn : n = n'
  · subst hnn
    go_enter Tryz.func14, Tryz.ntmps14
    go_wp2_with fail
    go_loopw [13] (fun v wr => ∃ i : Nat, i ≤ n ∧ v = .int .i64 (i : Int) ∧ Hid (∀ j, j < i → V j = V' j) ∧ Below w.heap.size w wr) (fun v _ => n - (intOf v).toNat)
    case atStart => exact ⟨0, Nat.zero_le _, rfl, Lib.hid (fun j hj => absurd hj (Nat.not_lt_zero j)), Below.refl _ _⟩
    case round =>
      obtain ⟨i, hi, rfl, hall, hb⟩ := hrel
      by_cases hlt : i < n
      · obtain ⟨ad, hA, h1, h2, _, _⟩ := HO.out i hlt
        obtain ⟨ad', hA', h1', h2', _, _⟩ := HO'.out i hlt
        subst hA hA'
        have q1 : ∀ q, (wr.drewN q).cell? (ad.add i) = some (.int .i64 (V i)) := fun q => ((below_drewN' hb q).cell (by rw [add_block]; exact h1)).trans h2
        have q2 : ∀ q, (wr.drewN q).cell? (ad'.add i) = some (.int .i64 (V' i)) := fun q => ((below_drewN' hb q).cell (by rw [add_block]; exact h1')).trans h2'
        have hlti : (i : Int) < (n : Int) := by omega
        clear h2 h2'
        by_cases he : V i = V' i
        · have HE : Hid (∀ j, j < i + 1 → V j = V' j) := Lib.hid fun j hj => by
            by_cases e : j < i
            · exact hall.out j e
            · obtain rfl : j = i := by omega
              exact he
          rw [← he] at q2
          have hee : (V i == V i) = true := by simp
          clear he
          go_wp2_with fail
          go_quiet (fail)
          go_wp2_with fail
          go_roundw
          case rel => exact ⟨i + 1, by omega, by go_num, HE, below_drewN' hb _⟩
          case measure => simp [intOf]; omega
        · have hne : (V i == V' i) = false := by rw [beq_eq_false_iff_ne]; exact he
          have HE := Lib.hid he
          clear he
          go_wp2_with fail
          go_quiet (fail)
          go_wp2_with fail
          go_ret
          exact ⟨false, rfl, ⟨fun h => (by cases h), fun h => absurd (h.2 i hlt) HE.out⟩, below_drewN' hb _⟩
      · obtain rfl : i = n := by omega
        go_wp2_with fail
        go_ret
        exact ⟨true, rfl, ⟨fun _ => ⟨by trivial, hall.out⟩, fun _ => rfl⟩, hb⟩
  · have hd : ((n : Int) == (n' : Int)) = false := by rw [beq_eq_false_iff_ne]; omega
    go_enter Tryz.func14, Tryz.ntmps14
    go_wp2_with fail
    go_ret
    exact ⟨false, rfl, ⟨fun h => (by cases h), fun h => absurd h.1 hnn⟩, Below.refl _ _⟩

theorem locT_drop {S : List Sec} {i q : Nat} {x : Sec} (h : S[i]? = some x) : locT (S.drop i) q = if q ≤ x.n then some (0, q) else (locT (S.drop (i + 1)) (q - (x.n + 1))).map fun (d, o) => (d + 1, o) := by
  rw [List.drop_eq_getElem?_toList_append, h]
  rfl
/-- what Doc answers from document i on. -/
def docJ (S : List Sec) (i q : Nat) : Int × Int := match locT (S.drop i) q with
  | some (d, o) => (((d + i : Nat) : Int), (o : Int))
  | none => (-1, -1)
theorem docJ_here {S : List Sec} {i q : Nat} {x : Sec} (h : S[i]? = some x) (hq : q ≤ x.n) : docJ S i q = ((i : Int), (q : Int)) := by
  unfold docJ
  rw [locT_drop h, if_pos hq]
  simp
theorem docJ_on {S : List Sec} {i q : Nat} {x : Sec} (h : S[i]? = some x) (hq : ¬ q ≤ x.n) : docJ S i q = docJ S (i + 1) (q - (x.n + 1)) := by
  unfold docJ
  rw [locT_drop h, if_neg hq]
  rcases locT (S.drop (i + 1)) (q - (x.n + 1)) with _ | ⟨d, o⟩
  · rfl
  · show (((d + 1 + i : Nat) : Int), (o : Int)) = (((d + (i + 1) : Nat) : Int), (o : Int))
    rw [show d + 1 + i = d + (i + 1) by omega]
theorem docJ_end {S : List Sec} {i q : Nat} (h : S.length ≤ i) : docJ S i q = (-1, -1) := by
  unfold docJ
  rw [List.drop_of_length_le h]
  rfl
theorem docI_nat {S : List Sec} (q : Nat) : docI S (q : Int) = docJ S 0 q := by
  unfold docI docJ
  rw [if_neg (by omega), Int.toNat_natCast, List.drop_zero]
  rcases locT S q with _ | ⟨d, o⟩
  · rfl
  · rfl
/-- a collection's symbols, as ints. -/
def symI (S : List Sec) (p : Nat) : Int := ((symT S p : Nat) : Int)
/-- of which document each place of an order is. -/
def docAt (S : List Sec) (V : Nat → Int) (i : Nat) : Int := (docI S (V i)).1
theorem docAt_room {S : List Sec} {p : Int} : -1 ≤ (docI S p).1 ∧ (docI S p).1 ≤ (S.length : Int) := by
  unfold docI
  split
  · exact ⟨by omega, by show (-1 : Int) ≤ _; omega⟩
  · split
    · rename_i d o h
      have : d ≤ S.length := by
        have h2 : ∀ (S : List Sec) (q d o : Nat), locT S q = some (d, o) → d ≤ S.length := by
          intro S
          induction S with
          | nil => intro q d o h; cases h
          | cons x S ih =>
            intro q d o h
            unfold locT at h
            split at h
            · cases h
              exact Nat.zero_le _
            · rcases e : locT S (q - (x.n + 1)) with _ | ⟨d', o'⟩
              · rw [e] at h; cases h
              · rw [e] at h
                cases h
                have := ih _ _ _ e
                show d' + 1 ≤ S.length + 1
                omega
        exact h2 S _ d o h
      show (-1 : Int) ≤ (d : Int) ∧ (d : Int) ≤ _
      omega
    · exact ⟨by omega, by show (-1 : Int) ≤ _; omega⟩
end Go.Proofs.YtbkdloebbbmkaaaGreat

namespace Go.Proofs.YtbkdloebbbmkaaaGreat
open Go.RowKit

theorem odd_test (r : Nat) : ((r : Int) % 2 == 1) = r.testBit 0 := by
  rw [Nat.testBit_zero, Bool.eq_iff_iff]
  simp
  omega
theorem bit_test8 (v k : Nat) (hv : v < 256) (hk : k < 8) : (bits .and .u8 ((v : Int) / 2 ^ k) 1 == 1) = v.testBit k := by
  have all : ∀ j, j < 8 → ∀ y, y < 256 → (bits .and .u8 ((y / 2 ^ j : Nat) : Int) 1 == 1) = y.testBit j := by decide +kernel
  rw [shr_u]
  exact all k hk v hv

end Go.Proofs.YtbkdloebbbmkaaaGreat

namespace Go.Proofs.YtbkdloebbbmkaaaGreat
open Go.RowKit

/-- bytes out of a list. -/
def ofList (l : List Nat) : Nat → Nat := fun k => l.getD k 0
theorem bys_lit (l : List Nat) (hl : ∀ x ∈ l, x < 256) (w : World) (fz : Nat × Nat) : Bys (w.alloc (.cells (l.map fun (x : Nat) => Value.int .u8 (x : Int)).toArray 5 fz)) (w.heap.size + 1) (some ⟨w.heap.size, 0, none⟩) l.length (ofList l) := fun k hk => by
  refine ⟨⟨w.heap.size, 0, none⟩, rfl, Nat.lt_succ_self _, ?_, ?_⟩
  · have e : (⟨w.heap.size, 0, none⟩ : Addr).add k = ⟨w.heap.size, k, none⟩ := by unfold Addr.add; split <;> simp_all
    rw [e, World.cell?_alloc_mark]
    simp [ofList, hk]
  · unfold ofList
    rw [List.getD_eq_getElem?_getD, List.getElem?_eq_getElem hk]
    exact hl _ (List.getElem_mem _)
theorem conv_lit (w : World) (C : Array Value) (n : Nat) : (convert 35 35 (.slice (some ⟨w.heap.size, 0, none⟩) n n)).run Tryz.prog (w.alloc (.cells C 5)) = .ok (.slice (some ⟨w.heap.size, 0, none⟩) n n) (w.alloc (.cells C 5 (C.size, C.size + 1))) :=
  Lib.run_convert_bytes_const w 35 5 C n n Tryz.underlying35 Tryz.underlying5
theorem conv_lit1 (w : World) (o : Obj) (C : Array Value) (n : Nat) : (convert 35 35 (.slice (some ⟨w.heap.size + 1, 0, none⟩) n n)).run Tryz.prog ((w.alloc o).alloc (.cells C 5)) = .ok (.slice (some ⟨w.heap.size + 1, 0, none⟩) n n) ((w.alloc o).alloc (.cells C 5 (C.size, C.size + 1))) :=
  Joins.run_convert_bytes_const_at (w.alloc o) 35 5 C n n (w.heap.size + 1) (size_alloc w o).symm Tryz.underlying35 Tryz.underlying5

/-- the bytes of the example. -/
def o4 : Obj := .cells #[.int .u8 49, .int .u8 50, .int .u8 51, .int .u8 52] 5 (4, 5)
def o5 : Obj := .cells #[.int .u8 53, .int .u8 54, .int .u8 55, .int .u8 56, .int .u8 57] 5 (5, 6)
end Go.Proofs.YtbkdloebbbmkaaaGreat

namespace Go.Proofs.YtbkdloebbbmkaaaGreat
open Go.RowKit

theorem addr_add0 (ad : Addr) : ad.add 0 = ad := by unfold Addr.add; split <;> simp_all
/-- a slice of ints that may be read. -/
def ItsR (w : World) (A : Option Addr) (n c : Nat) (V : Nat → Int) : Prop := (A = none → n = 0 ∧ c = 0) ∧ n ≤ c ∧ c ≤ maxLen ∧ Its w w.heap.size A n V
theorem ItsR.below {w w' : World} {A : Option Addr} {n c : Nat} {V : Nat → Int} (h : ItsR w A n c V) (hb : Below w.heap.size w w') : ItsR w' A n c V := ⟨h.1, h.2.1, h.2.2.1, (h.2.2.2.below hb).mono_ hb.size⟩
theorem ItsR.of_own {w : World} {B n : Nat} {v : Value} {V : Nat → Int} (h : w.ownsRow B 3 1 v n (icells V n)) (hV : ∀ i, i < n → -9223372036854775808 ≤ V i ∧ V i ≤ 9223372036854775807) : ∃ A c, v = .slice A n c ∧ ItsR w A n c V := by
  obtain ⟨A, c, rfl, hI⟩ := Its.of_own h hV
  have hr := owns_room h
  refine ⟨A, c, rfl, fun e => ?_, hr.1, hr.2, hI⟩
  subst e
  rcases h.2 with ⟨e, h0⟩ | ⟨_, _, _, e, _⟩
  · cases e
    exact ⟨rfl, rfl⟩
  · cases e
/-- in new memory. -/
def Fresh (w : World) (A : Option Addr) (n : Nat) : Prop := 0 < n → ∀ ad, A = some ad → w.heap.size ≤ ad.block
theorem Its.grown {w w' : World} {B n : Nat} {A : Option Addr} {V : Nat → Int} {row : Option Nat} (h : Its w B A n V) (hg : w.grownBy w' row) (hr : 0 < n → ∀ ad, A = some ad → row ≠ some ad.block) : Its w' B A n V := fun k hk => by
  obtain ⟨ad, e, h1, h2, h3⟩ := h k hk
  have hlt := cell_in h2
  refine ⟨ad, e, h1, (World.cell?_of_block (hg.block _ hlt ?_)).trans h2, h3⟩
  rw [add_block]
  exact fun e' => hr (by omega) ad e e'.symm
theorem ItsR.grown {w w' : World} {A : Option Addr} {n c : Nat} {V : Nat → Int} {row : Option Nat} (h : ItsR w A n c V) (hg : w.grownBy w' row) (hr : 0 < n → ∀ ad, A = some ad → row ≠ some ad.block) : ItsR w' A n c V := ⟨h.1, h.2.1, h.2.2.1, (h.2.2.2.grown hg hr).mono_ hg.size⟩
/-- what Array leaves. -/
def ArrayPost (w : World) (n : Nat) (V : Nat → Int) (al : Int) (e : Ending) (w' : World) : Prop :=
  (RightS V n al → ∃ (A' : Option Addr) (c' : Nat) (s : Nat → Nat), e = .returned (.tuple #[.slice A' n c', .int .i64 0]) ∧ IsSA V n s ∧ Fresh w A' n ∧ ItsR w' A' n c' (fun i => ((s i : Nat) : Int))) ∧
  (¬ RightS V n al → ∃ (A' : Option Addr) (c' : Nat), e = .returned (.tuple #[.slice A' 0 c', .int .i64 2])) ∧ Below w.heap.size w w'
/-- what Turn leaves. -/
def TurnPost (w : World) (n : Nat) (V : Nat → Int) (e : Ending) (w' : World) : Prop :=
  (IsPerm V n → ∃ (A' : Option Addr) (c' : Nat) (R : Nat → Int), e = .returned (.tuple #[.slice A' n c', .int .i64 0]) ∧ Turns V R n ∧ ItsR w' A' n c' R) ∧
  (¬ IsPerm V n → ∃ (A' : Option Addr) (c' : Nat), e = .returned (.tuple #[.slice A' 0 c', .int .i64 2])) ∧ Below w.heap.size w w'
/-- a literal of ints, as it lies. -/
def litI (xs : List Int) : Nat → Int := fun k => xs.getD k 0
theorem its_lit (w : World) (xs : List Int) (hx : ∀ x ∈ xs, -9223372036854775808 ≤ x ∧ x ≤ 9223372036854775807) : Its (w.alloc (.cells (xs.map fun x => Value.int .i64 x).toArray 3)) (w.alloc (.cells (xs.map fun x => Value.int .i64 x).toArray 3)).heap.size (some ⟨w.heap.size, 0, none⟩) xs.length (litI xs) := fun k hk => by
  have hl := lies_new w 3 (xs.map fun x => Value.int .i64 x)
  have hm : xs.getD k 0 ∈ xs := by
    rw [List.getD_eq_getElem?_getD, List.getElem?_eq_getElem hk]
    exact List.getElem_mem _
  obtain ⟨h1, h2⟩ := hx _ hm
  refine ⟨⟨w.heap.size, 0, none⟩, rfl, by rw [size_alloc]; exact Nat.lt_succ_self _, ?_, h1, h2⟩
  show _ = some (Value.int IntKind.i64 (xs.getD k 0))
  rw [Addr.add_mid, Nat.zero_add, hl.cell, List.getElem?_map, List.getD_eq_getElem?_getD, List.getElem?_eq_getElem hk]
  rfl
/-- sorted, if each is less than the next one. -/
theorem isSA_of_next {V : Nat → Int} {n : Nat} {s : Nat → Nat} (h1 : ∀ i, i < n → s i < n) (h2 : ∀ i, i + 1 < n → SLess V n (s i) (s (i + 1))) : IsSA V n s := by
  refine ⟨h1, fun i j hij hj => ?_⟩
  obtain ⟨d, rfl⟩ := Nat.le.dest (show i + 1 ≤ j from hij)
  clear hij
  induction d with
  | zero => exact h2 i hj
  | succ d ih => exact sless_trans (ih (by omega)) (h2 (i + 1 + d) (by omega))
def exS : Nat → Nat := fun i => [5, 3, 1, 0, 4, 2].getD i 0
def exR : Nat → Int := fun i => [3, 2, 5, 1, 4, 0].getD i 0
theorem six {P : Nat → Prop} (h0 : P 0) (h1 : P 1) (h2 : P 2) (h3 : P 3) (h4 : P 4) (h5 : P 5) : ∀ i, i < 6 → P i := fun i hi => by
  have h : i = 0 ∨ i = 1 ∨ i = 2 ∨ i = 3 ∨ i = 4 ∨ i = 5 := by omega
  rcases h with rfl | rfl | rfl | rfl | rfl | rfl <;> assumption
theorem exSA : IsSA (litI [2, 1, 3, 1, 3, 1]) 6 exS := by
  refine isSA_of_next (six (by decide) (by decide) (by decide) (by decide) (by decide) (by decide)) (fun i hi => ?_)
  have h : i = 0 ∨ i = 1 ∨ i = 2 ∨ i = 3 ∨ i = 4 := by omega
  rcases h with rfl | rfl | rfl | rfl | rfl
  · exact ⟨1, fun i hi => (by obtain rfl : i = 0 := by omega
                              rfl), by decide, by decide, .inl rfl⟩
  · exact ⟨3, fun i hi => (by
      have h : i = 0 ∨ i = 1 ∨ i = 2 := by omega
      rcases h with rfl | rfl | rfl <;> rfl), by decide, by decide, .inl rfl⟩
  · exact ⟨0, fun i hi => absurd hi (Nat.not_lt_zero i), by decide, by decide, .inr (by decide)⟩
  · exact ⟨0, fun i hi => absurd hi (Nat.not_lt_zero i), by decide, by decide, .inr (by decide)⟩
  · exact ⟨2, fun i hi => (by
      have h : i = 0 ∨ i = 1 := by omega
      rcases h with rfl | rfl <;> rfl), by decide, by decide, .inl rfl⟩
theorem exRight : RightS (litI [2, 1, 3, 1, 3, 1]) 6 4 := ⟨⟨by decide, by decide, by decide⟩, six (by decide) (by decide) (by decide) (by decide) (by decide) (by decide)⟩
theorem exWrong : ¬ RightS (litI [4]) 1 4 := fun h => absurd (h.2 0 (by decide)).2 (by decide)
theorem exTurned {s : Nat → Nat} {R : Nat → Int} (hs : IsSA (litI [2, 1, 3, 1, 3, 1]) 6 s) (hR : Turns (fun i => ((s i : Nat) : Int)) R 6) : ∀ i, i < 6 → R i = exR i := by
  have e := exSA.one hs
  have h : ∀ i, i < 6 → R (exS i) = (i : Int) := fun i hi => by
    have h1 := hR i hi
    rw [Int.toNat_natCast, ← e i hi] at h1
    exact h1
  refine six ?_ ?_ ?_ ?_ ?_ ?_
  · exact h 3 (by decide)
  · exact h 2 (by decide)
  · exact h 5 (by decide)
  · exact h 1 (by decide)
  · exact h 4 (by decide)
  · exact h 0 (by decide)
theorem exLeast : leastI (litI [1, 2]) 2 0 1 = -1 := leastI_less (V := litI [1, 2]) (n := 2) (a := 0) (b := 1) (by decide) (by decide) ⟨0, fun i hi => absurd hi (Nat.not_lt_zero i), by decide, by decide, .inr (by decide)⟩

end Go.Proofs.YtbkdloebbbmkaaaGreat

namespace Go.Proofs.YtbkdloebbbmkaaaGreat
open Go.RowKit

theorem wf_i64 {a : Int} (h1 : -9223372036854775808 ≤ a) (h2 : a ≤ 9223372036854775807) : (Lit.int .i64 a).wf = true := by
  simp [Lit.wf, IntKind.min, IntKind.max, IntKind.bits, IntKind.signed]
  omega
theorem Its.wf {w : World} {B n : Nat} {A : Option Addr} {V : Nat → Int} (h : Its w B A n V) {k : Nat} (hk : k < n) : (Lit.int .i64 (V k)).wf = true := by
  obtain ⟨_, _, _, _, h1, h2⟩ := h k hk
  exact wf_i64 h1 h2
theorem Its.small {w : World} {B n : Nat} {A : Option Addr} {V : Nat → Int} (h : Its w B A n V) : ∀ i, i < n → -9223372036854775808 ≤ V i ∧ V i ≤ 9223372036854775807 := fun i hi => by
  obtain ⟨_, _, _, _, h1, h2⟩ := h i hi
  exact ⟨h1, h2⟩
theorem turn_w (a : Int) (t : Nat) (ht : 0 < t) (hs : t ≤ 4194304) : ∃ j : Nat, wrap64 ((IntKind.u64.wrap a).tmod (t : Int)) = (j : Int) ∧ j < t := by
  have hw : 0 ≤ IntKind.u64.wrap a := by rw [IntKind.wrap_u64]; omega
  generalize IntKind.u64.wrap a = x at hw
  have e1 : x.tmod (t : Int) = x % (t : Int) := Int.tmod_eq_emod_of_nonneg hw
  have h1 := Int.emod_nonneg x (show (t : Int) ≠ 0 by omega)
  have h2 := Int.emod_lt_of_pos x (show (0 : Int) < (t : Int) by omega)
  rw [e1]
  refine ⟨(x % (t : Int)).toNat, ?_, by omega⟩
  unfold wrap64
  omega
end Go.Proofs.YtbkdloebbbmkaaaGreat

namespace Go.Proofs.YtbkdloebbbmkaaaGreat
open Go.ChangeShapes Go.WideShapes Go.ChangeAt Go.RowKit

section
variable {H : Type} {enc : TypeId × Value → H}
set_option maxRecDepth 100000 in
theorem open_listr {W : World} {v : Value} {d : DataW H} {p : List MemPlace} {b : Nat} {r : Reach} (hv : Value.okWide Tryz.prog W r b 22 v) (h : DataW.Trod enc Tryz.prog W 0 (fun _ => true) true 22 v d p) :
    ∃ (A : Option Addr) (n c : Nat) (V : Nat → Int), v = .slice A n c ∧ ItsR W A n c V := by
  obtain ⟨a0, len, cap, rfl⟩ := okWide_slice Tryz.underlying22 hv
  obtain ⟨fuel, hf⟩ := h
  rcases open_ints Tryz.underlying22 Tryz.underlying3 cells_i64 hf with ⟨hcs, _⟩ | ⟨a, n, c, zs, hcs, _, hl, hm, hz, _, hcell, hwz⟩
  · simp [Value.cells] at hcs
    obtain ⟨rfl, rfl, rfl⟩ := hcs
    exact ⟨none, 0, 0, fun _ => 0, rfl, fun _ => ⟨rfl, rfl⟩, Nat.le_refl _, Nat.zero_le _, fun k hk => absurd hk (by omega)⟩
  · simp [Value.cells] at hcs
    obtain ⟨rfl, rfl, rfl⟩ := hcs
    have hnm : len ≤ zs.length := by rw [hz]; split <;> omega
    refine ⟨some a, len, cap, fun k => zs.getD k 0, rfl, fun e => (by cases e), hl, hm, fun k hk => ?_⟩
    have e0 := hcell k (by omega)
    have hlt := cell_in e0
    rw [add_block] at hlt
    have hmem : zs.getD k 0 ∈ zs := by
      rw [List.getD_eq_getElem?_getD, List.getElem?_eq_getElem (by omega)]
      exact List.getElem_mem _
    exact ⟨a, rfl, hlt, e0, i64_in (hwz _ hmem)⟩
end
end Go.Proofs.YtbkdloebbbmkaaaGreat

namespace Go.Proofs.YtbkdloebbbmkaaaGreat
open Go.ChangeShapes Go.WideShapes Go.ChangeAt Go.RowKit

section
variable {H : Type} {enc : TypeId × Value → H}
theorem list_of (l : List Value) (k : IntKind) (h : ∀ v ∈ l, ∃ z : Int, v = .int k z ∧ (Lit.int k z).wf = true) : ∃ zs : List Int, l = zs.map (fun z => Value.int k z) ∧ ∀ z ∈ zs, (Lit.int k z).wf = true := by
  induction l with
  | nil => exact ⟨[], rfl, fun _ h => by cases h⟩
  | cons v l ih =>
    obtain ⟨z, rfl, hz⟩ := h v (List.mem_cons_self ..)
    obtain ⟨zs, rfl, hzs⟩ := ih fun u hu => h u (List.mem_cons_of_mem _ hu)
    refine ⟨z :: zs, rfl, fun y hy => ?_⟩
    rcases List.mem_cons.1 hy with rfl | hy
    · exact hz
    · exact hzs y hy
set_option maxRecDepth 100000 in
theorem open_arr {W : World} {v : Value} {d : DataW H} {p : List MemPlace} {b : Nat} {r : Reach} {t e : TypeId} {n : Nat} {k : IntKind} (ht : Tryz.prog.underlying t = some (.array n e)) (he : Tryz.prog.underlying e = some (.int k)) (hce : Tryz.prog.cellsOf e = 1) (hct : Tryz.prog.cellsOf t = n)
    (hv : Value.okWide Tryz.prog W r b t v) (h : DataW.Trod enc Tryz.prog W 0 (fun _ => true) true t v d p) : ∃ zs : List Int, v = .agg (zs.map fun z => Value.int k z).toArray ∧ zs.length = n ∧ ∀ z ∈ zs, (Lit.int k z).wf = true := by
  obtain ⟨cs, rfl, hsz, _⟩ : ∃ cs, v = .agg cs ∧ cs.size = Tryz.prog.cellsOf t ∧ Row.okWide Tryz.prog W r b t cs := by
    simpa [Value.okWide, ht] using hv
  rw [hct] at hsz
  obtain ⟨l⟩ := cs
  have hl : l.length = n := by simpa using hsz
  obtain ⟨fuel, hf⟩ := h
  obtain ⟨xs, mm, _, _, _, hlen, hel⟩ := DataW.trod_array ht hf
  rw [hce] at hel
  obtain ⟨zs, e1, e2⟩ := list_of l k fun u hu => by
    obtain ⟨i, hi, rfl⟩ := List.getElem_of_mem hu
    have h0 := hel i (by omega)
    have hx : ∃ x, xs[i]? = some x := ⟨_, List.getElem?_eq_getElem (by omega)⟩
    obtain ⟨x, hx⟩ := hx
    rw [hx] at h0
    obtain ⟨z, hz, _, hw⟩ := DataW.trod_int he h0
    have hcell : ((Value.agg ⟨l⟩).cells.toList.drop (i * 1)).take 1 = [l[i]] := by
      show (l.drop (i * 1)).take 1 = _
      rw [Nat.mul_one, List.drop_eq_getElem_cons hi]
      rfl
    refine ⟨z, ?_, hw⟩
    have := hz
    rw [hcell] at this
    simpa using this
  subst e1
  exact ⟨zs, rfl, by simpa using hl, e2⟩
end
end Go.Proofs.YtbkdloebbbmkaaaGreat

namespace Go.Proofs.YtbkdloebbbmkaaaGreat

/-- the pattern stands at the place. -/
def StN (V : Nat → Int) (n : Nat) (P : Nat → Int) (m a : Nat) : Prop := a + m ≤ n ∧ ∀ i, i < m → V (a + i) = P i
/-- as a Bool. -/
noncomputable def stB (V : Nat → Int) (n : Nat) (P : Nat → Int) (m a : Nat) : Bool := @decide (StN V n P m a) (Classical.propDecidable _)
theorem stB_iff {V : Nat → Int} {n : Nat} {P : Nat → Int} {m a : Nat} : stB V n P m a = true ↔ StN V n P m a := @decide_eq_true_iff _ (Classical.propDecidable _)
/-- the places of the first k at which it stands, if it isn't empty. -/
noncomputable def plsF (V : Nat → Int) (n : Nat) (P : Nat → Int) (m : Nat) : Nat → List Int
  | 0 => []
  | k + 1 => plsF V n P m k ++ (if 0 < m ∧ stB V n P m k = true then [(k : Int)] else [])
theorem plsF_hit {V : Nat → Int} {n : Nat} {P : Nat → Int} {m k : Nat} (h : 0 < m ∧ stB V n P m k = true) : plsF V n P m (k + 1) = plsF V n P m k ++ [(k : Int)] := by
  show plsF V n P m k ++ _ = _
  rw [if_pos h]
theorem plsF_miss {V : Nat → Int} {n : Nat} {P : Nat → Int} {m k : Nat} (h : ¬ (0 < m ∧ stB V n P m k = true)) : plsF V n P m (k + 1) = plsF V n P m k := by
  show plsF V n P m k ++ _ = _
  rw [if_neg h, List.append_nil]
theorem plsF_len (V : Nat → Int) (n : Nat) (P : Nat → Int) (m : Nat) : ∀ k, (plsF V n P m k).length ≤ k
  | 0 => Nat.le_refl _
  | k + 1 => by
    have := plsF_len V n P m k
    by_cases h : 0 < m ∧ stB V n P m k = true
    · rw [plsF_hit h, List.length_append]
      show _ + 1 ≤ _
      omega
    · rw [plsF_miss h]
      omega
theorem mem_plsF {V : Nat → Int} {n : Nat} {P : Nat → Int} {m : Nat} {x : Int} : ∀ {k}, x ∈ plsF V n P m k ↔ ∃ a : Nat, a < k ∧ 0 < m ∧ StN V n P m a ∧ x = (a : Int)
  | 0 => ⟨fun h => (by cases h), fun ⟨a, ha, _⟩ => absurd ha (Nat.not_lt_zero a)⟩
  | k + 1 => by
    have ih := mem_plsF (V := V) (n := n) (P := P) (m := m) (x := x) (k := k)
    by_cases h : 0 < m ∧ stB V n P m k = true
    · rw [plsF_hit h, List.mem_append, ih, List.mem_singleton]
      constructor
      · rintro (⟨a, h1, h2⟩ | h1)
        · exact ⟨a, by omega, h2⟩
        · exact ⟨k, by omega, h.1, stB_iff.1 h.2, h1⟩
      · rintro ⟨a, h1, h2, h3, h4⟩
        by_cases e : a = k
        · exact .inr (by rw [h4, e])
        · exact .inl ⟨a, by omega, h2, h3, h4⟩
    · rw [plsF_miss h, ih]
      constructor
      · rintro ⟨a, h1, h2⟩
        exact ⟨a, by omega, h2⟩
      · rintro ⟨a, h1, h2, h3, h4⟩
        by_cases e : a = k
        · subst e
          exact absurd ⟨h2, stB_iff.2 h3⟩ h
        · exact ⟨a, by omega, h2, h3, h4⟩
theorem plsF_none (V : Nat → Int) (n : Nat) (P : Nat → Int) : ∀ k, plsF V n P 0 k = []
  | 0 => rfl
  | k + 1 => by rw [plsF_miss (fun h => absurd h.1 (Nat.lt_irrefl 0)), plsF_none V n P k]
/-- places rise. -/
theorem plsF_rise (V : Nat → Int) (n : Nat) (P : Nat → Int) (m : Nat) : ∀ k, (plsF V n P m k).Pairwise (· < ·)
  | 0 => List.Pairwise.nil
  | k + 1 => by
    by_cases h : 0 < m ∧ stB V n P m k = true
    · rw [plsF_hit h, List.pairwise_append]
      refine ⟨plsF_rise V n P m k, List.pairwise_singleton _ _, fun x hx y hy => ?_⟩
      obtain ⟨a, h1, _, _, h4⟩ := mem_plsF.1 hx
      rw [List.mem_singleton] at hy
      rw [h4, hy]
      omega
    · rw [plsF_miss h]
      exact plsF_rise V n P m k
/-- of those of the first k that are such: the first one, and behind the last one; 0, 0: none. -/
def rngF (f : Nat → Bool) : Nat → Nat × Nat
  | 0 => (0, 0)
  | k + 1 => if f k = true then (if (rngF f k).2 = 0 then k else (rngF f k).1, k + 1) else rngF f k
theorem rngF_first {f : Nat → Bool} {k : Nat} (h : f k = true) (h0 : (rngF f k).2 = 0) : rngF f (k + 1) = (k, k + 1) := by
  unfold rngF
  rw [if_pos h, if_pos h0]
theorem rngF_more {f : Nat → Bool} {k : Nat} (h : f k = true) (h0 : (rngF f k).2 ≠ 0) : rngF f (k + 1) = ((rngF f k).1, k + 1) := by
  rw [rngF, if_pos h, if_neg h0]
theorem rngF_miss {f : Nat → Bool} {k : Nat} (h : f k = false) : rngF f (k + 1) = rngF f k := by
  rw [rngF, if_neg (by rw [h]; decide)]
theorem rngF_le (f : Nat → Bool) : ∀ k, (rngF f k).1 ≤ (rngF f k).2 ∧ (rngF f k).2 ≤ k
  | 0 => ⟨Nat.le_refl _, Nat.le_refl _⟩
  | k + 1 => by
    have ih := rngF_le f k
    cases hf : f k with
    | false => rw [rngF_miss hf]; omega
    | true =>
      by_cases h0 : (rngF f k).2 = 0
      · rw [rngF_first hf h0]
        exact ⟨by omega, by omega⟩
      · rw [rngF_more hf h0]
        exact ⟨by show (rngF f k).1 ≤ k + 1; omega, by omega⟩
theorem rngF_lt {f : Nat → Bool} : ∀ {k}, (rngF f k).2 ≠ 0 → (rngF f k).1 < (rngF f k).2
  | 0, h => absurd rfl h
  | k + 1, h => by
    have hle := rngF_le f k
    cases hf : f k with
    | false =>
      rw [rngF_miss hf] at h ⊢
      exact rngF_lt h
    | true =>
      by_cases h0 : (rngF f k).2 = 0
      · rw [rngF_first hf h0]
        exact Nat.lt_succ_self _
      · rw [rngF_more hf h0]
        show (rngF f k).1 < k + 1
        omega
theorem rngF_all {f : Nat → Bool} : ∀ {k : Nat}, (∀ j, j < k → f j = true) → rngF f k = (0, k)
  | 0, _ => rfl
  | k + 1, h => by
    have ih := rngF_all (f := f) (k := k) (fun j hj => h j (by omega))
    by_cases h0 : (rngF f k).2 = 0
    · rw [rngF_first (h k (by omega)) h0]
      rw [ih] at h0
      have h0 : k = 0 := h0
      rw [h0]
    · rw [rngF_more (h k (by omega)) h0, ih]
theorem rngF_congr {f g : Nat → Bool} : ∀ {k : Nat}, (∀ j, j < k → f j = g j) → rngF f k = rngF g k
  | 0, _ => rfl
  | k + 1, h => by
    rw [rngF, rngF, rngF_congr (fun j hj => h j (by omega)), h k (by omega)]
/-- the last number is there once. -/
def OnceT (T : Nat → Int) (n : Nat) : Prop := 0 < n ∧ ∀ i, i + 1 < n → T i ≠ T (n - 1)
end Go.Proofs.YtbkdloebbbmkaaaGreat

namespace Go.Proofs.YtbkdloebbbmkaaaGreat
open Go.RowKit

theorem step_append_int_own {ops : Array Oper} {rest : List Oper} {o : Oper} {a : Act} {Q : Exit → Act → World → Prop} (hgd : o.guard = none) (s x : Operand)
    (ho : o.op = .call { callee := .builtin .append, args := #[s, x], argTypes := #[22, 22] })
    {w : World} {B : Nat} {v : Value} {i : Nat} {xs : List Value} (hs : a.eval s = v) (hown : w.ownsRow B 3 1 v i xs) (y : Int) (hx : a.eval x = .slice (some ⟨w.heap.size, 0, none⟩) 1 1) (hB : B ≤ w.heap.size) (hi : i ≤ 4194304)
    (h : ∀ g cap w', Hid (w'.ownsRow B 3 1 (.slice (some ⟨g, 0, none⟩) (i + 1) cap) (i + 1) (xs ++ [.int .i64 y])) → Hid (w.grownBy w' v.ownBlock ∧ (v.ownBlock = some g ∨ w.heap.size ≤ g)) → Below B w w' → wpList Tryz.prog ops Q rest (a.put o.dst (.slice (some ⟨g, 0, none⟩) (i + 1) cap)) w') :
    wpList Tryz.prog ops Q (o :: rest) a (w.alloc (.cells #[.int .i64 y] 3)) := by
  obtain ⟨i0, hi0, hz0, hs0, hb0⟩ := info_parts info_i64
  refine wpList_append_lies (w.alloc (.cells #[.int .i64 y] 3)) hgd s x 22 ho B 3 i0 (.int .i64 0) 1 8 Tryz.underlying22 hi0 hz0 hs0 hb0 rfl (by decide) v i xs hs (hown.alloc _) ⟨w.heap.size, 0, none⟩ 1 1 [.int .i64 y] hx rfl
    (World.news_of_block (cs := #[.int .i64 y]) (t := 3) (fr := (0, 0)) (heap_alloc_new w _)) (by simp [Value.oneCell']) (by decide) (by unfold maxLen; omega) (by omega) (by rw [size_alloc]; omega) (w.heap.size + 1) (by rw [size_alloc]) (fun g cap w' h1 h2 h3 _ => ?_)
  have hg := grownBy_trans (World.grownBy_alloc w _ _) h2
  refine h g cap w' (Lib.hid h1) (Lib.hid ⟨hg, h3.imp id (fun e => by omega)⟩) ?_
  exact ((Below.refl _ _).alloc hB _).grown h2 (by rw [size_alloc]; omega) (fun k hk => (hown.lt k hk).1)

/-- two rows in blocks of their own. -/
def Apart (v v' : Value) : Prop := ∀ g, v.ownBlock = some g → v'.ownBlock ≠ some g
theorem Apart.symm {v v' : Value} (h : Apart v v') : Apart v' v := fun g h1 h2 => h g h2 h1
theorem Apart.kept {w w' : World} {B n : Nat} {t : TypeId} {v v' : Value} {cs : List Value} (h : w.ownsRow B t 1 v n cs) (ha : Apart v v') (hg : w.grownBy w' v'.ownBlock) : w'.ownsRow B t 1 v n cs := by
  refine h.kept hg ?_
  rcases e : v.ownBlock with _ | g
  · exact .inl rfl
  · exact .inr (fun e' => ha g e (by rw [← e']))
/-- the other row is appended to. -/
theorem Apart.next {w : World} {B n : Nat} {t : TypeId} {v v' : Value} {cs : List Value} {g m c : Nat} (h : w.ownsRow B t 1 v n cs) (ha : Apart v v') (hg : v'.ownBlock = some g ∨ w.heap.size ≤ g) : Apart v (.slice (some ⟨g, 0, none⟩) m c) := fun g' h1 h2 => by
  have h2 : some g = some g' := h2
  cases h2
  rcases hg with hg | hg
  · exact ha g h1 hg
  · have := (h.lt g h1).2
    omega
end Go.Proofs.YtbkdloebbbmkaaaGreat

namespace Go.Proofs.YtbkdloebbbmkaaaGreat
open Go.RowKit

set_option maxRecDepth 100000 in
set_option maxHeartbeats 1600000 in
theorem refStands_is (A A' : Option Addr) (n c m c' : Nat) (V P : Nat → Int) (a : Nat) (w : World) (hn : n ≤ 4194304) (hm : m ≤ maxLen) (ha : a ≤ n) (ho : Its w w.heap.size A n V) (ho' : Its w w.heap.size A' m P) :
    Calls Tryz.prog 26 #[.slice A n c, .slice A' m c', .int .i64 (a : Int)] w fun e w' => e = .returned (.bool (stB V n P m a)) ∧ Below w.heap.size w w' := by
  have HO := Lib.hid ho
  have HP := Lib.hid ho'
  obtain ⟨r, hr⟩ : ∃ r, stB V n P m a = r := ⟨_, rfl⟩
  rw [hr]
  have HR : Hid (r = true ↔ StN V n P m a) := Lib.hid (by rw [← hr]; exact stB_iff)
  have hml : m ≤ 9223372036854775807 := by unfold maxLen at hm; omega
  have e1 : IntKind.i64.wrap ((n : Int) - (a : Int)) = (n : Int) - (a : Int) := IntWalk.i64_in _ (by omega)
  clear ho ho' hr hm
  by_cases hlt : a + m ≤ n
  · have d1 : decide ((n : Int) - (a : Int) < (m : Int)) = false := decide_eq_false (by omega)
    go_enter Tryz.func26, Tryz.ntmps26
    go_wp2_with fail
    go_loopw [17] (fun v wr => ∃ i : Nat, i ≤ m ∧ v = .int .i64 (i : Int) ∧ Hid (∀ j, j < i → V (a + j) = P j) ∧ Hid (Below w.heap.size w wr)) (fun v _ => m - (intOf v).toNat)
    case atStart => exact ⟨0, Nat.zero_le _, rfl, Lib.hid (fun j hj => absurd hj (Nat.not_lt_zero j)), Lib.hid (Below.refl _ _)⟩
    case round =>
      obtain ⟨i, hi, rfl, hall, hb⟩ := hrel
      by_cases him : i < m
      · have himi : (i : Int) < (m : Int) := by omega
        obtain ⟨q, hq⟩ : ∃ q, a + i = q := ⟨_, rfl⟩
        have e2 : IntKind.i64.wrap ((a : Int) + (i : Int)) = (q : Int) := by rw [IntWalk.i64_in _ (by omega)]; omega
        have hqn : (q : Int) < (n : Int) := by omega
        obtain ⟨ad, hA, _, _, _⟩ := HO.out q (by omega)
        subst hA
        obtain ⟨ad', hA', _, _, _⟩ := HP.out i him
        subst hA'
        have c1 : ∀ k, (wr.drewN k).cell? (ad.add q) = some (.int .i64 (V q)) := fun k => by
          obtain ⟨_, e, _, h, _⟩ := (HO.out.below (below_drewN' hb.out k)) q (by omega)
          cases e
          exact h
        have c2 : ∀ k, (wr.drewN k).cell? (ad'.add i) = some (.int .i64 (P i)) := fun k => by
          obtain ⟨_, e, _, h, _⟩ := (HP.out.below (below_drewN' hb.out k)) i him
          cases e
          exact h
        have HB2 : ∀ k, Hid (Below w.heap.size w (wr.drewN k)) := fun k => Lib.hid (below_drewN' hb.out k)
        by_cases hv : V q = P i
        · have HN : Hid (∀ j, j < i + 1 → V (a + j) = P j) := Lib.hid fun j hj => by
            by_cases e : j = i
            · rw [e, hq]; exact hv
            · exact hall.out j (by omega)
          rw [hv] at c1
          have g1 : (P i != P i) = false := by simp
          generalize P i = y at c1 c2 g1
          clear hall hb hv hq
          go_wp2_with fail
          go_quiet (fail)
          go_wp2_with fail
          go_roundw
          case rel => exact ⟨i + 1, by omega, by go_num, HN, HB2 _⟩
          case measure => simp [intOf]; omega
        · obtain rfl : r = false := Bool.eq_false_iff.2 fun h => hv (by
            have := (HR.out.1 h).2 i him
            rwa [hq] at this)
          have g1 : (V q != P i) = true := by rw [bne_iff_ne]; exact hv
          generalize V q = x at c1 g1 hv
          generalize P i = y at c2 g1 hv
          clear hall hb hq
          go_wp2_with fail
          go_quiet (fail)
          go_wp2_with fail
          go_ret
          exact ⟨rfl, (HB2 _).out⟩
      · have hge : ¬ (i : Int) < (m : Int) := by omega
        obtain rfl : r = true := HR.out.2 ⟨hlt, fun j hj => hall.out j (by omega)⟩
        go_wp2_with fail
        go_ret
        exact ⟨rfl, hb.out⟩
  · have d1 : decide ((n : Int) - (a : Int) < (m : Int)) = true := decide_eq_true (by omega)
    have d2 : (n : Int) - (a : Int) < (m : Int) := by omega
    obtain rfl : r = false := Bool.eq_false_iff.2 fun h => hlt (HR.out.1 h).1
    go_enter Tryz.func26, Tryz.ntmps26
    go_wp2_with fail
    go_ret
    exact ⟨rfl, Below.refl _ _⟩

/-- a list as a row. -/
def lstI (l : List Int) : Nat → Int := fun k => l.getD k 0
theorem icells_lstI_snoc (l : List Int) (x : Int) : icells (lstI (l ++ [x])) (l.length + 1) = icells (lstI l) l.length ++ [.int .i64 x] := by
  rw [icells_snoc]
  congr 1
  · refine icells_congr fun j hj => ?_
    unfold lstI
    rw [List.getD_eq_getElem?_getD, List.getD_eq_getElem?_getD, List.getElem?_append_left hj]
  · unfold lstI
    rw [List.getD_eq_getElem?_getD, List.getElem?_append_right (Nat.le_refl _), Nat.sub_self]
    rfl
set_option maxRecDepth 100000 in
set_option maxHeartbeats 1600000 in
theorem refPlaces15_any (A A' : Option Addr) (n c m c' : Nat) (V P : Nat → Int) (w : World) (hn : n ≤ 4194303) (hm : m ≤ maxLen) (ho : Its w w.heap.size A n V) (ho' : Its w w.heap.size A' m P) :
    Calls Tryz.prog 21 #[.slice A n c, .slice A' m c'] w fun e w' => ∃ u : Value, e = .returned u ∧ w'.ownsRow w.heap.size 3 1 u (plsF V n P m n).length (icells (lstI (plsF V n P m n)) (plsF V n P m n).length) ∧ Below w.heap.size w w' := by
  have HO := Lib.hid ho
  have HP := Lib.hid ho'
  have hml : m ≤ 9223372036854775807 := by unfold maxLen at hm; omega
  clear ho ho'
  go_enter Tryz.func21, Tryz.ntmps21
  go_wp2_with fail
  go_loopw [5, 9] (fun u v wr => ∃ i : Nat, i ≤ n ∧ v = .int .i64 (i : Int) ∧ Hid (wr.ownsRow w.heap.size 3 1 u (plsF V n P m i).length (icells (lstI (plsF V n P m i)) (plsF V n P m i).length)) ∧ Hid (Below w.heap.size w wr)) (fun _ v _ => n - (intOf v).toNat)
  case atStart => exact ⟨0, Nat.zero_le _, rfl, Lib.hid (World.ownsRow_nil w _ _ _), Lib.hid (Below.refl _ _)⟩
  case round =>
    obtain ⟨i, hi, rfl, hrow, hb⟩ := hrel
    by_cases hlt : i < n
    · have hlti : (i : Int) < (n : Int) := by omega
      have hlen := plsF_len V n P m i
      have HSt := refStands_is A A' n c m c' V P i _ (by omega) hm (by omega) ((HO.out.below hb.out).mono_ hb.out.size) ((HP.out.below hb.out).mono_ hb.out.size)
      obtain ⟨r, hr⟩ : ∃ r, stB V n P m i = r := ⟨_, rfl⟩
      rw [hr] at HSt
      have HSt := Lib.hid HSt
      rename World => wl
      by_cases hm0 : 0 < m
      · have hm0i : (0 : Int) < (m : Int) := by omega
        have d1 : decide ((0 : Int) < (m : Int)) = true := decide_eq_true hm0i
        cases r with
        | true =>
          have HN := Lib.hid (plsF_hit (V := V) (n := n) (P := P) (m := m) (k := i) ⟨hm0, hr⟩)
          clear hr
          go_wp2_with fail
          refine HSt.out.mono ?_
          rintro e w4 ⟨rfl, hb4⟩
          have hown4 : Hid (w4.ownsRow w.heap.size 3 1 u5 (plsF V n P m i).length (icells (lstI (plsF V n P m i)) (plsF V n P m i).length)) := Lib.hid (hrow.out.kept (row := none) ⟨hb4.os, hb4.tape, hb4.output, hb4.size, fun k hk _ => hb4.block k hk⟩ (by
            rcases h : u5.ownBlock with _ | g
            · exact .inl rfl
            · exact .inr (by simp)))
          have hB4 := Lib.hid (hb.out.trans (hb4.mono hb.out.size))
          have hbs := hB4.out.size
          have hl4 : (plsF V n P m i).length ≤ 4194304 := by omega
          clear hrow hb hb4 HSt
          go_wp2_with (at_builtin; refine step_append_int rfl (.tmp 21) (.tmp 23) rfl rfl hown4.out _ rfl hbs hl4 ?_; intro v5 w5 hown5 hb5)
          go_roundw
          case rel => exact ⟨i + 1, by omega, by go_num, Lib.hid (by
            rw [HN.out, List.length_append]
            show World.ownsRow _ _ _ _ _ ((plsF V n P m i).length + 1) (icells _ ((plsF V n P m i).length + 1))
            rw [icells_lstI_snoc]
            exact hown5.out), Lib.hid (hB4.out.trans hb5)⟩
          case measure => simp [intOf]; omega
        | false =>
          have HN := Lib.hid (plsF_miss (V := V) (n := n) (P := P) (m := m) (k := i) (fun h => by rw [hr] at h; cases h.2))
          clear hr
          go_wp2_with fail
          refine HSt.out.mono ?_
          rintro e w4 ⟨rfl, hb4⟩
          have hown4 : Hid (w4.ownsRow w.heap.size 3 1 u5 (plsF V n P m i).length (icells (lstI (plsF V n P m i)) (plsF V n P m i).length)) := Lib.hid (hrow.out.kept (row := none) ⟨hb4.os, hb4.tape, hb4.output, hb4.size, fun k hk _ => hb4.block k hk⟩ (by
            rcases h : u5.ownBlock with _ | g
            · exact .inl rfl
            · exact .inr (by simp)))
          have hB4 := Lib.hid (hb.out.trans (hb4.mono hb.out.size))
          clear hrow hb hb4 HSt
          go_wp2_with fail
          go_roundw
          case rel => exact ⟨i + 1, by omega, by go_num, by rw [HN.out]; exact hown4, hB4⟩
          case measure => simp [intOf]; omega
      · have hm0i : ¬ (0 : Int) < (m : Int) := by omega
        have d1 : decide ((0 : Int) < (m : Int)) = false := decide_eq_false hm0i
        have HN := Lib.hid (plsF_miss (V := V) (n := n) (P := P) (m := m) (k := i) (fun h => hm0 h.1))
        clear hr HSt
        go_wp2_with fail
        go_roundw
        case rel => exact ⟨i + 1, by omega, by go_num, by rw [HN.out]; exact hrow, hb⟩
        case measure => simp [intOf]; omega
    · obtain rfl : i = n := by omega
      have hge : ¬ (i : Int) < (i : Int) := by omega
      go_wp2_with fail
      go_ret
      exact ⟨_, rfl, hrow.out, hb.out⟩

set_option maxRecDepth 100000 in
set_option maxHeartbeats 1600000 in
theorem refRange15_any (A AS A' : Option Addr) (n c k cs m c' : Nat) (V P : Nat → Int) (s : Nat → Nat) (w : World) (hn : n ≤ 4194303) (hk : k ≤ 4194303) (hm : m ≤ maxLen) (hs : ∀ i, i < k → s i ≤ n) (ho : Its w w.heap.size A n V) (hS : Its w w.heap.size AS k (fun i => ((s i : Nat) : Int))) (ho' : Its w w.heap.size A' m P) :
    Calls Tryz.prog 19 #[.slice A n c, .slice AS k cs, .slice A' m c'] w fun e w' => e = .returned (.tuple #[.int .i64 (((rngF (fun i => stB V n P m (s i)) k).1 : Nat) : Int), .int .i64 (((rngF (fun i => stB V n P m (s i)) k).2 : Nat) : Int)]) ∧ Below w.heap.size w w' := by
  have HO := Lib.hid ho
  have HS := Lib.hid hS
  have HP := Lib.hid ho'
  have HSn := Lib.hid hs
  clear ho hS ho' hs
  go_enter Tryz.func19, Tryz.ntmps19
  go_wp2_with fail
  go_loopw [8, 9, 14] (fun u t v wr => ∃ i x y : Nat, i ≤ k ∧ y ≤ i ∧ v = .int .i64 (i : Int) ∧ u = .int .i64 (x : Int) ∧ t = .int .i64 (y : Int) ∧ Hid (rngF (fun i => stB V n P m (s i)) i = (x, y)) ∧ Hid (Below w.heap.size w wr)) (fun _ _ v _ => k - (intOf v).toNat)
  case atStart => exact ⟨0, 0, 0, Nat.zero_le _, Nat.le_refl _, rfl, rfl, rfl, Lib.hid rfl, Lib.hid (Below.refl _ _)⟩
  case round =>
    obtain ⟨i, x, y, hi, hyi, rfl, rfl, rfl, hx, hb⟩ := hrel
    by_cases hlt : i < k
    · have hlti : (i : Int) < (k : Int) := by omega
      obtain ⟨ad, hA, _, cx, _⟩ := HS.out.below hb.out i hlt
      subst hA
      have HSt := refStands_is A A' n c m c' V P (s i) _ (by omega) hm (HSn.out i hlt) ((HO.out.below hb.out).mono_ hb.out.size) ((HP.out.below hb.out).mono_ hb.out.size)
      obtain ⟨r, hr⟩ : ∃ r, stB V n P m (s i) = r := ⟨_, rfl⟩
      rw [hr] at HSt
      have HSt := Lib.hid HSt
      obtain ⟨z, hz⟩ : ∃ z, s i = z := ⟨_, rfl⟩
      replace cx : World.cell? _ (ad.add i) = some (.int .i64 ((s i : Nat) : Int)) := cx
      rw [hz] at cx HSt
      rename World => wl
      cases r with
      | true =>
        by_cases hy0 : y = 0
        · subst hy0
          have HN : Hid (rngF (fun i => stB V n P m (s i)) (i + 1) = (i, i + 1)) := Lib.hid (rngF_first (f := fun i => stB V n P m (s i)) hr (by rw [hx.out]))
          clear hr hz hx
          go_wp2_with fail
          refine HSt.out.mono ?_
          rintro e w4 ⟨rfl, hb4⟩
          have hB4 := Lib.hid (hb.out.trans (hb4.mono hb.out.size))
          clear hb hb4 HSt cx
          go_wp2_with fail
          go_roundw
          case rel => exact ⟨i + 1, i, i + 1, by omega, by omega, by go_num, rfl, by go_num, HN, hB4⟩
          case measure => simp [intOf]; omega
        · have HN : Hid (rngF (fun i => stB V n P m (s i)) (i + 1) = (x, i + 1)) := Lib.hid (by rw [rngF_more (f := fun i => stB V n P m (s i)) hr (by rw [hx.out]; exact hy0), hx.out])
          have g1 : ((y : Int) == 0) = false := by rw [beq_eq_false_iff_ne]; omega
          have g2 : ¬ (y : Int) = 0 := by omega
          clear hr hz hx
          go_wp2_with fail
          refine HSt.out.mono ?_
          rintro e w4 ⟨rfl, hb4⟩
          have hB4 := Lib.hid (hb.out.trans (hb4.mono hb.out.size))
          clear hb hb4 HSt cx
          go_wp2_with fail
          go_roundw
          case rel => exact ⟨i + 1, x, i + 1, by omega, by omega, by go_num, rfl, by go_num, HN, hB4⟩
          case measure => simp [intOf]; omega
      | false =>
        have HN : Hid (rngF (fun i => stB V n P m (s i)) (i + 1) = (x, y)) := Lib.hid (by rw [rngF_miss (f := fun i => stB V n P m (s i)) hr]; exact hx.out)
        clear hr hz hx
        go_wp2_with fail
        refine HSt.out.mono ?_
        rintro e w4 ⟨rfl, hb4⟩
        have hB4 := Lib.hid (hb.out.trans (hb4.mono hb.out.size))
        clear hb hb4 HSt cx
        go_wp2_with fail
        go_roundw
        case rel => exact ⟨i + 1, x, y, by omega, by omega, by go_num, rfl, rfl, HN, hB4⟩
        case measure => simp [intOf]; omega
    · obtain rfl : i = k := by omega
      have hge : ¬ (i : Int) < (i : Int) := by omega
      go_wp2_with fail
      go_ret2
      exact ⟨by rw [hx.out]; rfl, hb.out⟩

set_option maxRecDepth 100000 in
set_option maxHeartbeats 1600000 in
theorem refEnds15_is (A : Option Addr) (n c : Nat) (V : Nat → Int) (w : World) (hn : n ≤ 4194304) (ho : Its w w.heap.size A n V) (r : Bool) (hr : r = true ↔ OnceT V n) :
    Calls Tryz.prog 13 #[.slice A n c] w fun e w' => e = .returned (.bool r) ∧ Below w.heap.size w w' := by
  have HO := Lib.hid ho
  have HR := Lib.hid hr
  clear ho hr
  go_enter Tryz.func13, Tryz.ntmps13
  go_wp2_with fail
  go_loopw [3] (fun v wr => ∃ i : Nat, (i = 0 ∨ i + 1 ≤ n) ∧ v = .int .i64 (i : Int) ∧ Hid (∀ j, j < i → V j ≠ V (n - 1)) ∧ Hid (Below w.heap.size w wr)) (fun v _ => n - (intOf v).toNat)
  case atStart => exact ⟨0, .inl rfl, rfl, Lib.hid (fun j hj => absurd hj (Nat.not_lt_zero j)), Lib.hid (Below.refl _ _)⟩
  case round =>
    obtain ⟨i, hi, rfl, hall, hb⟩ := hrel
    have hw0 : IntKind.i64.wrap ((i : Int) + 1) = ((i + 1 : Nat) : Int) := by rw [IntWalk.i64_in _ (by omega)]; omega
    by_cases hlt : i + 1 < n
    · have hlti : ((i + 1 : Nat) : Int) < (n : Int) := by omega
      have d1 : decide (((i + 1 : Nat) : Int) < (n : Int)) = true := decide_eq_true hlti
      have hii : (i : Int) < (n : Int) := by omega
      obtain ⟨q, hq⟩ : ∃ q, n - 1 = q := ⟨_, rfl⟩
      have hqi : (q : Int) < (n : Int) := by omega
      have hw1 : IntKind.i64.wrap ((n : Int) - 1) = (q : Int) := by rw [IntWalk.i64_in _ (by omega)]; omega
      obtain ⟨ad, hA, _, _, _, _⟩ := HO.out i (by omega)
      subst hA
      have hc1 : ∀ k, (wr.drewN k).cell? (ad.add i) = some (.int .i64 (V i)) := fun k => by
        obtain ⟨_, e, _, h, _⟩ := (HO.out.below (below_drewN' hb.out k)) i (by omega)
        cases e
        exact h
      have hc2 : ∀ k, (wr.drewN k).cell? (ad.add q) = some (.int .i64 (V q)) := fun k => by
        obtain ⟨_, e, _, h, _⟩ := (HO.out.below (below_drewN' hb.out k)) q (by omega)
        cases e
        exact h
      have HB2 : ∀ k, Hid (Below w.heap.size w (wr.drewN k)) := fun k => Lib.hid (below_drewN' hb.out k)
      rw [hq] at hall
      by_cases hv : V i = V q
      · obtain rfl : r = false := Bool.eq_false_iff.2 fun h => by
          have := (HR.out.1 h).2 i hlt
          rw [hq] at this
          exact this hv
        rw [hv] at hc1
        have g1 : (V q == V q) = true := by simp
        generalize V q = y at hc1 hc2 g1
        clear hall hb hv hq
        go_wp2_with fail
        go_quiet (fail)
        go_wp2_with fail
        go_ret
        exact ⟨rfl, (HB2 _).out⟩
      · have HN : Hid (∀ j, j < i + 1 → V j ≠ V (n - 1)) := Lib.hid fun j hj => by
          rw [hq]
          by_cases e : j = i
          · rw [e]; exact hv
          · exact hall.out j (by omega)
        have g1 : (V i == V q) = false := by rw [beq_eq_false_iff_ne]; exact hv
        generalize V i = x at hc1 g1 hv
        generalize V q = y at hc2 g1 hv
        clear hall hb hq
        go_wp2_with fail
        go_quiet (fail)
        go_wp2_with fail
        go_roundw
        case rel => exact ⟨i + 1, .inr (by omega), by go_num, HN, HB2 _⟩
        case measure => simp [intOf]; omega
    · have d1 : decide (((i + 1 : Nat) : Int) < (n : Int)) = false := decide_eq_false (by omega)
      obtain rfl : r = decide (0 < (n : Int)) := by
        rw [Bool.eq_iff_iff, HR.out, decide_eq_true_iff]
        constructor
        · intro h
          have := h.1
          omega
        · intro h
          exact ⟨by omega, fun j hj => hall.out j (by omega)⟩
      clear HR
      go_wp2_with fail
      go_ret
      exact ⟨by first | rfl | simp, hb.out⟩
end Go.Proofs.YtbkdloebbbmkaaaGreat

namespace Go.Proofs.YtbkdloebbbmkaaaGreat
open Go.RowKit

/-- such a list, and the order of its suffixes, as they lie. -/
structure Ended (w : World) (AT AS : Option Addr) (n ct cs : Nat) (T : Nat → Int) (s : Nat → Nat) : Prop where
  small : n ≤ 121
  once : OnceT T n
  right : ∀ i, i < n → 0 ≤ T i ∧ T i < 21
  sa : IsSA T n s
  list : ItsR w AT n ct T
  order : ItsR w AS n cs (fun i => ((s i : Nat) : Int))
theorem Ended.below {w w' : World} {AT AS : Option Addr} {n ct cs : Nat} {T : Nat → Int} {s : Nat → Nat} (h : Ended w AT AS n ct cs T s) (hb : Below w.heap.size w w') : Ended w' AT AS n ct cs T s := ⟨h.small, h.once, h.right, h.sa, h.list.below hb, h.order.below hb⟩

/-- a list with x put at its end. -/
def topT (T : Nat → Int) (k : Nat) (x : Int) : Nat → Int := fun j => if j = k then x else T j
theorem topT_lt {T : Nat → Int} {k j : Nat} {x : Int} (h : j < k) : topT T k x j = T j := if_neg (by omega)
theorem topT_at (T : Nat → Int) (k : Nat) (x : Int) : topT T k x k = x := if_pos rfl
theorem icells_topT (T : Nat → Int) (k : Nat) (x : Int) : icells (topT T k x) (k + 1) = icells T k ++ [.int .i64 x] := by
  rw [icells_snoc, topT_at, icells_congr (fun j hj => topT_lt hj)]
theorem topT_small {T : Nat → Int} {k : Nat} {x : Int} (h : ∀ j, j < k → 0 ≤ T j ∧ T j < 6) (h0 : 0 ≤ x) (h1 : x < 21) : ∀ j, j ≤ k → 0 ≤ topT T k x j ∧ topT T k x j < 21 := fun j hj => by
  by_cases e : j = k
  · rw [e, topT_at]; omega
  · rw [topT_lt (by omega)]
    have := h j (by omega)
    omega
theorem topT_once {T : Nat → Int} {k : Nat} {x : Int} (h : ∀ j, j < k → T j ≠ x) : OnceT (topT T k x) (k + 1) := ⟨Nat.succ_pos k, fun i hi => by
  rw [show k + 1 - 1 = k by omega, topT_at, topT_lt (by omega)]
  exact h i (by omega)⟩

set_option maxRecDepth 100000 in
set_option maxHeartbeats 1600000 in
theorem ended_any (A : Option Addr) (n c : Nat) (V : Nat → Nat) (w : World) (hn : n ≤ maxLen) (ho : Bys w w.heap.size A n V) :
    Calls Tryz.prog 17 #[.slice A n c] w fun e w' => (∃ (AT AS : Option Addr) (m ct cs : Nat) (T : Nat → Int) (s : Nat → Nat), e = .returned (.tuple #[.slice AT m ct, .slice AS m cs]) ∧ Ended w' AT AS m ct cs T s) ∧ Below w.heap.size w w' := by
  have HO := Lib.hid ho
  have hnl : n ≤ 9223372036854775807 := by unfold maxLen at hn; omega
  clear ho hn
  go_enter Tryz.func17, Tryz.ntmps17
  go_wp2_with fail
  go_loopw [4, 9] (fun u v wr => ∃ (i k : Nat) (T : Nat → Int), i ≤ n ∧ k ≤ i ∧ k ≤ 120 ∧ v = .int .i64 (i : Int) ∧ Hid (wr.ownsRow w.heap.size 3 1 u k (icells T k)) ∧ Hid (∀ j, j < k → 0 ≤ T j ∧ T j < 6) ∧ Hid (Below w.heap.size w wr)) (fun _ v _ => n - (intOf v).toNat)
  case atStart => exact ⟨0, 0, fun _ => 0, Nat.zero_le _, Nat.le_refl _, Nat.zero_le _, rfl, Lib.hid (World.ownsRow_nil w _ _ _), Lib.hid (fun j hj => absurd hj (Nat.not_lt_zero j)), Lib.hid (Below.refl _ _)⟩
  case round =>
    obtain ⟨i, k, T, hi, hki, hk, rfl, hrow, hT, hb⟩ := hrel
    by_cases hlt : i < n
    · have hlti : (i : Int) < (n : Int) := by omega
      obtain ⟨ad, hA, _, cx, hv⟩ := HO.out.below hb.out i hlt
      subst hA
      have hbs := hb.out.size
      have hk4 : k ≤ 4194304 := by omega
      obtain ⟨y, hy⟩ : ∃ y, V i = y := ⟨_, rfl⟩
      rw [hy] at cx hv
      obtain ⟨z, hz, hz6⟩ : ∃ z : Nat, (y : Int).tmod 6 = (z : Int) ∧ z < 6 := ⟨y % 6, by rw [Int.tmod_eq_emod_of_nonneg (by omega)]; omega, by omega⟩
      clear hy
      by_cases h120 : i < 120
      · have g1 : (i : Int) < 120 := by omega
        have g2 : decide ((i : Int) < 120) = true := decide_eq_true g1
        go_wp2_with (at_builtin; refine step_append_int rfl (.tmp 16) (.tmp 20) rfl rfl hrow.out _ rfl hbs hk4 ?_; intro v5 w5 hown5 hb5)
        go_roundw
        case rel => exact ⟨i + 1, k + 1, fun q => if q = k then (z : Int) else T q, by omega, by omega, by omega, by go_num, Lib.hid (by
          rw [icells_snoc, if_pos rfl, icells_congr (U := fun q => if q = k then (z : Int) else T q) (U' := T) (fun q hq => if_neg (by omega))]
          exact hown5.out), Lib.hid (fun q hq => by
          show 0 ≤ (if q = k then (z : Int) else T q) ∧ (if q = k then (z : Int) else T q) < 6
          by_cases e : q = k
          · rw [if_pos e]; omega
          · rw [if_neg e]; exact hT.out q (by omega)), Lib.hid (hb.out.trans hb5)⟩
        case measure => simp [intOf]; omega
      · have g1 : ¬ (i : Int) < 120 := by omega
        have g2 : decide ((i : Int) < 120) = false := decide_eq_false g1
        have g3 : ¬ i < 120 := h120
        go_wp2_with fail
        go_roundw
        case rel => exact ⟨i + 1, k, T, by omega, by omega, hk, by go_num, hrow, hT, hb⟩
        case measure => simp [intOf]; omega
    · have hge : ¬ (i : Int) < (n : Int) := by omega
      have hbs := hb.out.size
      have hk4 : k ≤ 4194304 := by omega
      obtain ⟨q, hq, hq4⟩ : ∃ q : Nat, (k : Int).tmod 4 = (q : Int) ∧ q < 4 := ⟨k % 4, by rw [Int.tmod_eq_emod_of_nonneg (by omega)]; omega, by omega⟩
      have e1 : IntKind.i64.wrap ((q : Int) * 4) = ((q * 4 : Nat) : Int) := by rw [IntWalk.i64_in _ (by omega)]; omega
      have e2 : IntKind.i64.wrap (3 + ((q * 4 : Nat) : Int)) = ((3 + q * 4 : Nat) : Int) := by rw [IntWalk.i64_in _ (by omega)]; omega
      obtain ⟨z, hz⟩ : ∃ z, 3 + q * 4 = z := ⟨_, rfl⟩
      have hz21 : z < 21 := by omega
      rw [hz] at e2
      obtain ⟨O, co, hO⟩ : ∃ O co, u4 = .slice O k co := by
        rcases hrow.out.2 with ⟨e, h0⟩ | ⟨g', cap, cur, e, _⟩
        · exact ⟨none, 0, by rw [e, h0]⟩
        · exact ⟨_, cap, e⟩
      subst hO
      clear hz
      go_wp2_with (at_builtin; refine step_append_int rfl (.tmp 23) (.tmp 29) rfl rfl hrow.out _ rfl hbs hk4 ?_; intro v5 w5 hown5 hb5)
      obtain ⟨g4, c4, rfl, hg4, hl4, hc4, hm4⟩ := owns_some hown5.out (Nat.succ_pos k)
      have hB5 := Lib.hid (hb.out.trans hb5)
      have hc4l : c4 ≤ 9223372036854775807 := by unfold maxLen at hm4; omega
      have hown1 : Hid (w5.ownsRow w.heap.size 3 1 (.slice (some ⟨g4, 0, none⟩) (k + 1) c4) (k + 1) (icells (topT T k (3 + (q : Int) * 4)) (k + 1))) := Lib.hid (by rw [icells_topT]; exact hown5.out)
      have hit1 : Hid (ItsR w5 (some ⟨g4, 0, none⟩) (k + 1) c4 (topT T k (3 + (q : Int) * 4))) := Lib.hid (by
        obtain ⟨_, _, e, hit⟩ := ItsR.of_own hown1.out (fun j hj => by have := topT_small hT.out (x := 3 + (q : Int) * 4) (by omega) (by omega) j (by omega); omega)
        cases e
        exact hit)
      obtain ⟨r, hr⟩ : ∃ r : Bool, r = true ↔ OnceT (topT T k (3 + (q : Int) * 4)) (k + 1) := ⟨@decide _ (Classical.propDecidable _), @decide_eq_true_iff _ (Classical.propDecidable _)⟩
      have HE := Lib.hid (refEnds15_is (some ⟨g4, 0, none⟩) (k + 1) c4 (topT T k (3 + (q : Int) * 4)) w5 (by omega) hit1.out.2.2.2 r hr)
      have HR := Lib.hid hr
      clear hr hown5 hb5 hm4 hrow hb hbs
      refine HE.out.mono ?_
      rintro e w6 ⟨rfl, hb6⟩
      have hB6 := Lib.hid (hB5.out.trans (hb6.mono hB5.out.size))
      have hown6 := Lib.hid (ownsRow_keep hown1.out hb6)
      have hbs6 := hB6.out.size
      have hs6 := hb6.size
      cases r with
      | true =>
        have hsm : Hid (∀ j, j < k + 1 → 0 ≤ topT T k (3 + (q : Int) * 4) j ∧ topT T k (3 + (q : Int) * 4) j < 21) := Lib.hid fun j hj => topT_small hT.out (by omega) (by omega) j (by omega)
        have hon : Hid (OnceT (topT T k (3 + (q : Int) * 4)) (k + 1)) := Lib.hid (HR.out.1 rfl)
        obtain ⟨U, hU⟩ : ∃ U, topT T k (3 + (q : Int) * 4) = U := ⟨_, rfl⟩
        rw [hU] at hown6 hsm hon
        have hit6 : Hid (ItsR w6 (some ⟨g4, 0, none⟩) (k + 1) c4 U) := Lib.hid (by
          obtain ⟨_, _, e, hit⟩ := ItsR.of_own hown6.out (fun j hj => by have := hsm.out j hj; omega)
          cases e
          exact hit)
        have HA := Lib.hid (refArrayS_any (some ⟨g4, 0, none⟩) (k + 1) c4 U w6 (by omega) hit6.out.2.2.2)
        clear hU HE HR hown1 hit1 hown6 hb6 hT hq
        go_wp2_with fail
        refine HA.out.mono ?_
        rintro e w7 ⟨u, s, rfl, hsa, hown7, hb7⟩
        obtain ⟨AS, cs, rfl, hi7⟩ := ItsR.of_own hown7 (fun j hj => by have := hsa.1 j hj; omega)
        have HEnd : Hid (Ended w7 (some ⟨g4, 0, none⟩) AS (k + 1) c4 cs U s) := Lib.hid ⟨by omega, hon.out, hsm.out, hsa, hit6.out.below hb7, hi7⟩
        have hB7 := Lib.hid (hB6.out.trans (hb7.mono hbs6))
        clear HA hsa hown7 hb7 hi7 hit6 hon hsm
        go_wp2_with fail
        go_ret2
        exact ⟨⟨_, _, _, _, _, _, _, rfl, HEnd.out⟩, hB7.out⟩
      | false =>
        have hc2 : w6.cell? ⟨g4, k, none⟩ = some (.int .i64 (topT T k (3 + (q : Int) * 4) k)) := (hown6.out.cellAt k (by omega)).trans (icells_at _ _ _ (by omega))
        have hf2 := owns_free hown6.out k
        have hput := owns_put hown6.out k (.int .i64 20)
        rw [icells_put, icells_congr (U := fun i => if i = k then 20 else topT T k (3 + (q : Int) * 4) i) (U' := topT T k 20) (fun j hj => by
          show (if j = k then 20 else topT T k (3 + (q : Int) * 4) j) = topT T k 20 j
          by_cases e : j = k
          · rw [if_pos e, e, topT_at]
          · rw [if_neg e, topT_lt (by omega), topT_lt (by omega)])] at hput
        have hown8 := Lib.hid hput
        have hB8 := Lib.hid (hB6.out.setCell (p := ⟨g4, k, none⟩) hg4 (.int .i64 20))
        have hsm : Hid (∀ j, j < k + 1 → 0 ≤ topT T k 20 j ∧ topT T k 20 j < 21) := Lib.hid fun j hj => topT_small hT.out (by omega) (by omega) j (by omega)
        have hon : Hid (OnceT (topT T k 20) (k + 1)) := Lib.hid (topT_once fun j hj => by have := hT.out j hj; omega)
        have hlt1 : (k : Int) < (k : Int) + 1 := by omega
        obtain ⟨U, hU⟩ : ∃ U, topT T k 20 = U := ⟨_, rfl⟩
        rw [hU] at hown8 hsm hon
        have hbs8 := hB8.out.size
        have hit8 : Hid (ItsR (w6.setCell ⟨g4, k, none⟩ (.int .i64 20)) (some ⟨g4, 0, none⟩) (k + 1) c4 U) := Lib.hid (by
          obtain ⟨_, _, e, hit⟩ := ItsR.of_own hown8.out (fun j hj => by have := hsm.out j hj; omega)
          cases e
          exact hit)
        have HA := Lib.hid (refArrayS_any (some ⟨g4, 0, none⟩) (k + 1) c4 U (w6.setCell ⟨g4, k, none⟩ (.int .i64 20)) (by omega) hit8.out.2.2.2)
        clear hU HE HR hown1 hit1 hown6 hown8 hput hb6 hT hq hB6 hB5
        go_wp2_with fail
        refine HA.out.mono ?_
        rintro e w7 ⟨u, s, rfl, hsa, hown7, hb7⟩
        obtain ⟨AS, cs, rfl, hi7⟩ := ItsR.of_own hown7 (fun j hj => by have := hsa.1 j hj; omega)
        have HEnd : Hid (Ended w7 (some ⟨g4, 0, none⟩) AS (k + 1) c4 cs U s) := Lib.hid ⟨by omega, hon.out, hsm.out, hsa, hit8.out.below hb7, hi7⟩
        have hB7 := Lib.hid (hB8.out.trans (hb7.mono hbs8))
        clear HA hsa hown7 hb7 hi7 hit8 hon hsm
        go_wp2_with fail
        go_ret2
        exact ⟨⟨_, _, _, _, _, _, _, rfl, HEnd.out⟩, hB7.out⟩
end Go.Proofs.YtbkdloebbbmkaaaGreat

namespace Go.Proofs.YtbkdloebbbmkaaaGreat
open Go.RowKit

/-- the number ahead of place i of the order, as if the list went round. -/
def trnF (T : Nat → Int) (n : Nat) (s : Nat → Nat) (i : Nat) : Int := T ((s i + n - 1) % n)
/-- of the first k of them, those that are c. -/
def trnC (T : Nat → Int) (n : Nat) (s : Nat → Nat) (c : Int) (k : Nat) : Nat := Pl.cnt (fun i => decide (trnF T n s i = c)) k
/-- of all of them, those below c. -/
def trnB (T : Nat → Int) (n : Nat) (s : Nat → Nat) (c : Int) : Nat := Pl.cnt (fun i => decide (trnF T n s i < c)) n
/-- a range, with a number ahead. -/
def narF (T : Nat → Int) (n : Nat) (s : Nat → Nat) (al : Nat) (a b c : Int) : Int × Int :=
  if (0 ≤ a ∧ a ≤ b ∧ b ≤ (n : Int) ∧ 0 ≤ c ∧ c < (al : Int)) ∧ trnC T n s c a.toNat ≠ trnC T n s c b.toNat then (((trnB T n s c + trnC T n s c a.toNat : Nat) : Int), ((trnB T n s c + trnC T n s c b.toNat : Nat) : Int)) else (0, 0)
/-- of which lists there is a finder. -/
structure FindOk (T : Nat → Int) (n n' : Nat) (S : Nat → Int) (al k : Int) (s : Nat → Nat) : Prop where
  right : RightS T n al
  few : al < 4194304
  once : OnceT T n
  len : n' = n
  sa : IsSA T n s
  list : ∀ i, i < n → S i = ((s i : Nat) : Int)
  one : 1 ≤ k
  most : k ≤ 4194304

/-- what package find answers. At B w v n T s al k: a finder of the first n numbers of T, with the order s of its suffixes, lies at v, all of it in blocks from B on. -/
structure FindI (At : Nat → World → Value → Nat → (Nat → Int) → (Nat → Nat) → Nat → Nat → Prop) : Prop where
  keep_ : ∀ {B : Nat} {w w' : World} {v : Value} {n : Nat} {T : Nat → Int} {s : Nat → Nat} {al k : Nat}, At B w v n T s al k → w.heap.size ≤ w'.heap.size → (∀ k, B ≤ k → k < w.heap.size → w'.heap[k]? = w.heap[k]?) → At B w' v n T s al k
  ptr : ∀ {B : Nat} {w : World} {v : Value} {n : Nat} {T : Nat → Int} {s : Nat → Nat} {al k : Nat}, At B w v n T s al k → ∃ a, v = .pointer (some a)
  new : ∀ (A : Option Addr) (n c : Nat) (T : Nat → Int) (A' : Option Addr) (n' c' : Nat) (S : Nat → Int) (al k : Int) (w : World), n ≤ 4194303 → n' ≤ 4194303 → (Lit.int .i64 al).wf = true → (Lit.int .i64 k).wf = true → (al ≤ 4194303 ∨ 4194304 < al) → ItsR w A n c T → ItsR w A' n' c' S → Calls Tryz.prog 11 #[.slice A n c, .slice A' n' c', .int .i64 al, .int .i64 k] w fun e w' =>
    (∀ s, FindOk T n n' S al k s → ∃ v, e = .returned (.tuple #[v, .int .i64 0]) ∧ At w.heap.size w' v n T s al.toNat k.toNat) ∧ ((¬ ∃ s, FindOk T n n' S al k s) → e = .returned (.tuple #[.pointer none, .int .i64 2])) ∧ Below w.heap.size w w'
  len_ : ∀ (B : Nat) (v : Value) (n : Nat) (T : Nat → Int) (s : Nat → Nat) (al k : Nat) (w : World), At B w v n T s al k → Calls Tryz.prog 16 #[v] w fun e w' => e = .returned (.int .i64 (n : Int)) ∧ Below w.heap.size w w'
  range_ : ∀ (B : Nat) (v : Value) (n : Nat) (T : Nat → Int) (s : Nat → Nat) (al k : Nat) (A : Option Addr) (m c : Nat) (P : Nat → Int) (w : World), At B w v n T s al k → ItsR w A m c P → Calls Tryz.prog 18 #[v, .slice A m c] w fun e w' => e = .returned (.tuple #[.int .i64 (((rngF (fun i => stB T n P m (s i)) n).1 : Nat) : Int), .int .i64 (((rngF (fun i => stB T n P m (s i)) n).2 : Nat) : Int)]) ∧ Below w.heap.size w w'
  places : ∀ (B : Nat) (v : Value) (n : Nat) (T : Nat → Int) (s : Nat → Nat) (al k : Nat) (A : Option Addr) (m c : Nat) (P : Nat → Int) (w : World), At B w v n T s al k → ItsR w A m c P → Calls Tryz.prog 20 #[v, .slice A m c] w fun e w' => (∃ (A2 : Option Addr) (c2 : Nat), e = .returned (.slice A2 (plsF T n P m n).length c2) ∧ ItsR w' A2 (plsF T n P m n).length c2 (lstI (plsF T n P m n))) ∧ Below w.heap.size w w'
  narrow : ∀ (B : Nat) (v : Value) (n : Nat) (T : Nat → Int) (s : Nat → Nat) (al k : Nat) (a b c : Int) (w : World), (Lit.int .i64 a).wf = true → (Lit.int .i64 b).wf = true → (Lit.int .i64 c).wf = true → At B w v n T s al k → Calls Tryz.prog 25 #[v, .int .i64 a, .int .i64 b, .int .i64 c] w fun e w' => e = .returned (.tuple #[.int .i64 (narF T n s al a b c).1, .int .i64 (narF T n s al a b c).2]) ∧ Below w.heap.size w w'
  before : ∀ (B : Nat) (v : Value) (n : Nat) (T : Nat → Int) (s : Nat → Nat) (al k : Nat) (i : Int) (w : World), (Lit.int .i64 i).wf = true → At B w v n T s al k → Calls Tryz.prog 24 #[v, .int .i64 i] w fun e w' => (∀ j r : Nat, i = (j : Int) → j < n → r < n → s r = (s j + n - 1) % n → e = .returned (.int .i64 (r : Int))) ∧ (¬ (0 ≤ i ∧ i < (n : Int)) → e = .returned (.int .i64 (-1))) ∧ Below w.heap.size w w'
  place : ∀ (B : Nat) (v : Value) (n : Nat) (T : Nat → Int) (s : Nat → Nat) (al k : Nat) (i : Int) (w : World), (Lit.int .i64 i).wf = true → At B w v n T s al k → Calls Tryz.prog 23 #[v, .int .i64 i] w fun e w' => (∀ j : Nat, i = (j : Int) → j < n → e = .returned (.tuple #[.int .i64 ((s j : Nat) : Int), .int .i64 ((s j % k : Nat) : Int)])) ∧ (¬ (0 ≤ i ∧ i < (n : Int)) → e = .returned (.tuple #[.int .i64 (-1), .int .i64 0])) ∧ Below w.heap.size w w'
  nilLen : ∀ w : World, Calls Tryz.prog 16 #[.pointer none] w fun e w' => e = .returned (.int .i64 0) ∧ Below w.heap.size w w'
  nilRange : ∀ (A : Option Addr) (m c : Nat) (P : Nat → Int) (w : World), ItsR w A m c P → Calls Tryz.prog 18 #[.pointer none, .slice A m c] w fun e w' => e = .returned (.tuple #[.int .i64 0, .int .i64 0]) ∧ Below w.heap.size w w'
  nilNarrow : ∀ (a b c : Int) (w : World), (Lit.int .i64 a).wf = true → (Lit.int .i64 b).wf = true → (Lit.int .i64 c).wf = true → Calls Tryz.prog 25 #[.pointer none, .int .i64 a, .int .i64 b, .int .i64 c] w fun e w' => e = .returned (.tuple #[.int .i64 0, .int .i64 0]) ∧ Below w.heap.size w w'
  nilBefore : ∀ (i : Int) (w : World), (Lit.int .i64 i).wf = true → Calls Tryz.prog 24 #[.pointer none, .int .i64 i] w fun e w' => e = .returned (.int .i64 (-1)) ∧ Below w.heap.size w w'
  nilPlace : ∀ (i : Int) (w : World), (Lit.int .i64 i).wf = true → Calls Tryz.prog 23 #[.pointer none, .int .i64 i] w fun e w' => e = .returned (.tuple #[.int .i64 (-1), .int .i64 0]) ∧ Below w.heap.size w w'
  nilPlaces : ∀ (A : Option Addr) (m c : Nat) (P : Nat → Int) (w : World), ItsR w A m c P → Calls Tryz.prog 20 #[.pointer none, .slice A m c] w fun e w' => (∃ (A2 : Option Addr) (c2 : Nat), e = .returned (.slice A2 0 c2)) ∧ Below w.heap.size w w'

section
variable {At : Nat → World → Value → Nat → (Nat → Int) → (Nat → Nat) → Nat → Nat → Prop}
theorem FindI.keep (I : FindI At) {B : Nat} {w w' : World} {v : Value} {n : Nat} {T : Nat → Int} {s : Nat → Nat} {al k : Nat} (h : At B w v n T s al k) (hb : Below w.heap.size w w') : At B w' v n T s al k := I.keep_ h hb.size fun k _ hk => hb.block k hk

theorem itsR_litF (w : World) (xs : List Int) (hm : xs.length ≤ maxLen) (hx : ∀ x ∈ xs, -9223372036854775808 ≤ x ∧ x ≤ 9223372036854775807) : ItsR (w.alloc (.cells (xs.map fun x => Value.int .i64 x).toArray 3)) (some ⟨w.heap.size, 0, none⟩) xs.length xs.length (litI xs) := ⟨fun e => (by cases e), Nat.le_refl _, hm, its_lit w xs hx⟩
/-- the chapter's example. -/
def fxT : Nat → Int := litI [2, 1, 3, 1, 3, 1, 0]
def fxS : Nat → Int := litI [6, 5, 3, 1, 0, 4, 2]
def fxs : Nat → Nat := fun i => [6, 5, 3, 1, 0, 4, 2].getD i 0
theorem sevenF {P : Nat → Prop} (h0 : P 0) (h1 : P 1) (h2 : P 2) (h3 : P 3) (h4 : P 4) (h5 : P 5) (h6 : P 6) : ∀ i, i < 7 → P i := fun i hi => by
  have h : i = 0 ∨ i = 1 ∨ i = 2 ∨ i = 3 ∨ i = 4 ∨ i = 5 ∨ i = 6 := by omega
  rcases h with rfl | rfl | rfl | rfl | rfl | rfl | rfl <;> assumption
theorem sless_atF {V : Nat → Int} {n a b : Nat} (k : Nat) (h : (List.range k).all (fun i => decide (V (a + i) = V (b + i))) = true) (h1 : b + k < n) (h2 : a + k < n) (h3 : V (a + k) < V (b + k)) : SLess V n a b := ⟨k, fun i hi => by
  have := List.all_eq_true.1 h i (List.mem_range.2 hi)
  rwa [decide_eq_true_iff] at this, h1, Nat.le_of_lt h2, .inr h3⟩
theorem fxSA : IsSA fxT 7 fxs := by
  refine isSA_of_next (sevenF (by decide) (by decide) (by decide) (by decide) (by decide) (by decide) (by decide)) (fun i hi => ?_)
  have h : i = 0 ∨ i = 1 ∨ i = 2 ∨ i = 3 ∨ i = 4 ∨ i = 5 := by omega
  rcases h with rfl | rfl | rfl | rfl | rfl | rfl
  · exact sless_atF 0 (by decide) (by decide) (by decide) (by decide)
  · exact sless_atF 1 (by decide) (by decide) (by decide) (by decide)
  · exact sless_atF 3 (by decide) (by decide) (by decide) (by decide)
  · exact sless_atF 0 (by decide) (by decide) (by decide) (by decide)
  · exact sless_atF 0 (by decide) (by decide) (by decide) (by decide)
  · exact sless_atF 2 (by decide) (by decide) (by decide) (by decide)
theorem fxOk : FindOk fxT 7 7 fxS 4 3 fxs := ⟨⟨by decide, sevenF (P := fun i => 0 ≤ fxT i ∧ fxT i < 4) (by decide) (by decide) (by decide) (by decide) (by decide) (by decide) (by decide)⟩, by decide, ⟨by decide, fun i hi => by
  have h : i = 0 ∨ i = 1 ∨ i = 2 ∨ i = 3 ∨ i = 4 ∨ i = 5 := by omega
  rcases h with rfl | rfl | rfl | rfl | rfl | rfl <;> decide⟩, rfl, fxSA, sevenF (P := fun i => fxS i = ((fxs i : Nat) : Int)) (by decide) (by decide) (by decide) (by decide) (by decide) (by decide) (by decide), by decide, by decide⟩
/-- by looking. -/
def stC (V : Nat → Int) (n : Nat) (P : Nat → Int) (m a : Nat) : Bool := decide (a + m ≤ n) && (List.range m).all fun i => decide (V (a + i) = P i)
theorem stB_stC (V : Nat → Int) (n : Nat) (P : Nat → Int) (m a : Nat) : stB V n P m a = stC V n P m a := by
  rw [Bool.eq_iff_iff, stB_iff]
  unfold stC StN
  rw [Bool.and_eq_true, decide_eq_true_iff, List.all_eq_true]
  constructor
  · rintro ⟨h1, h2⟩
    exact ⟨h1, fun i hi => decide_eq_true (h2 i (List.mem_range.1 hi))⟩
  · rintro ⟨h1, h2⟩
    exact ⟨h1, fun i hi => of_decide_eq_true (h2 i (List.mem_range.2 hi))⟩
/-- by looking. -/
def plsC (V : Nat → Int) (n : Nat) (P : Nat → Int) (m : Nat) : Nat → List Int
  | 0 => []
  | k + 1 => plsC V n P m k ++ (if 0 < m ∧ stC V n P m k = true then [(k : Int)] else [])
theorem plsF_plsC (V : Nat → Int) (n : Nat) (P : Nat → Int) (m : Nat) : ∀ k, plsF V n P m k = plsC V n P m k
  | 0 => rfl
  | k + 1 => by
    show plsF V n P m k ++ _ = plsC V n P m k ++ _
    rw [plsF_plsC V n P m k, stB_stC]
theorem fxR1 : rngF (fun i => stB fxT 7 (litI [1, 3]) 2 (fxs i)) 7 = (2, 4) := by
  rw [rngF_congr (g := fun i => stC fxT 7 (litI [1, 3]) 2 (fxs i)) (fun j _ => stB_stC _ _ _ _ _)]
  decide
theorem fxR2 : rngF (fun i => stB fxT 7 (litI [0, 2]) 2 (fxs i)) 7 = (0, 0) := by
  rw [rngF_congr (g := fun i => stC fxT 7 (litI [0, 2]) 2 (fxs i)) (fun j _ => stB_stC _ _ _ _ _)]
  decide
theorem fxP : plsF fxT 7 (litI [1, 3]) 2 7 = [1, 3] := by
  rw [plsF_plsC]
  decide
set_option maxRecDepth 100000 in
set_option maxHeartbeats 3200000 in
theorem ffirst_any (I : FindI At) (w : World) : Calls Tryz.prog 10 #[] w fun e w' => e = .returned (.bool true) ∧ Below w.heap.size w w' := by
  have HI := Lib.hid I
  have i1 := itsR_litF w [2, 1, 3, 1, 3, 1, 0] (by unfold maxLen; decide) (by decide)
  have hb1 : Below w.heap.size w (w.alloc (.cells #[.int .i64 2, .int .i64 1, .int .i64 3, .int .i64 1, .int .i64 3, .int .i64 1, .int .i64 0] 3)) := (Below.refl _ _).alloc (Nat.le_refl _) _
  obtain ⟨w1, hw1⟩ : ∃ W, w.alloc (.cells #[.int .i64 2, .int .i64 1, .int .i64 3, .int .i64 1, .int .i64 3, .int .i64 1, .int .i64 0] 3) = W := ⟨_, rfl⟩
  have i1' : ItsR w1 (some ⟨w.heap.size, 0, none⟩) 7 7 fxT := by rw [← hw1]; exact i1
  have i2 := itsR_litF w1 [6, 5, 3, 1, 0, 4, 2] (by unfold maxLen; decide) (by decide)
  have hb1' : Below w.heap.size w w1 := by rw [← hw1]; exact hb1
  have hb2 : Below w1.heap.size w1 (w1.alloc (.cells #[.int .i64 6, .int .i64 5, .int .i64 3, .int .i64 1, .int .i64 0, .int .i64 4, .int .i64 2] 3)) := (Below.refl _ _).alloc (Nat.le_refl _) _
  have hA1 := I.new (some ⟨w.heap.size, 0, none⟩) 7 7 fxT (some ⟨w1.heap.size, 0, none⟩) 7 7 fxS 4 3 _ (by decide) (by decide) (by decide) (by decide) (.inl (by decide)) (i1'.below hb2) i2
  have hs1 : w1.heap.size = w.heap.size + 1 := by rw [← hw1, size_alloc]
  have HA1 := Lib.hid hA1
  clear hA1
  rw [hs1] at HA1
  have hB2 := Lib.hid (hb1'.trans (hb2.mono hb1'.size))
  clear I i1 i1' i2 hb1 hb1' hb2 hs1
  subst hw1
  go_enter Tryz.func10, Tryz.ntmps10
  go_wp2_with fail
  refine HA1.out.mono ?_
  rintro e w2 ⟨h1, _, hb3⟩
  obtain ⟨v, rfl, hAt⟩ := h1 fxs fxOk
  obtain ⟨pa, rfl⟩ := HI.out.ptr hAt
  have HB2 := Lib.hid (hB2.out.trans (hb3.mono hB2.out.size))
  have i3 : ItsR (w2.alloc (.cells #[.int .i64 1, .int .i64 3] 3)) (some ⟨w2.heap.size, 0, none⟩) 2 2 (litI [1, 3]) := itsR_litF w2 [1, 3] (by unfold maxLen; decide) (by decide)
  have hb4 : Below w2.heap.size w2 (w2.alloc (.cells #[.int .i64 1, .int .i64 3] 3)) := (Below.refl _ _).alloc (Nat.le_refl _) _
  have HA := Lib.hid (HI.out.keep hAt hb4)
  have HR := HI.out.range_ _ _ _ _ _ _ _ _ 2 2 _ _ HA.out i3
  rw [fxR1] at HR
  have HR := Lib.hid HR
  have HB4 := Lib.hid (HB2.out.trans (hb4.mono HB2.out.size))
  clear h1 hb3 hAt hB2 HA1 i3 hb4 HB2
  go_wp2_with fail
  refine HR.out.mono ?_
  rintro e w3 ⟨rfl, hb5⟩
  have HA3 := Lib.hid (HI.out.keep HA.out hb5)
  have HB5 := Lib.hid (HB4.out.trans (hb5.mono HB4.out.size))
  have i4 : ItsR (w3.alloc (.cells #[.int .i64 0, .int .i64 2] 3)) (some ⟨w3.heap.size, 0, none⟩) 2 2 (litI [0, 2]) := itsR_litF w3 [0, 2] (by unfold maxLen; decide) (by decide)
  have hb6 : Below w3.heap.size w3 (w3.alloc (.cells #[.int .i64 0, .int .i64 2] 3)) := (Below.refl _ _).alloc (Nat.le_refl _) _
  have HA4 := Lib.hid (HI.out.keep HA3.out hb6)
  have HR2 := HI.out.range_ _ _ _ _ _ _ _ _ 2 2 _ _ HA4.out i4
  rw [fxR2] at HR2
  have HR2 := Lib.hid HR2
  have HB6 := Lib.hid (HB5.out.trans (hb6.mono HB5.out.size))
  clear hb5 i4 hb6 HB5 HB4 HR HA HA3
  go_wp2_with fail
  refine HR2.out.mono ?_
  rintro e w4 ⟨rfl, hb7⟩
  have HA5 := Lib.hid (HI.out.keep HA4.out hb7)
  have HB7 := Lib.hid (HB6.out.trans (hb7.mono HB6.out.size))
  have HP := HI.out.place _ _ _ _ _ _ _ 4 w4 (by decide) HA5.out
  have HP := Lib.hid HP
  clear hb7 HB6 HR2 HA4
  go_wp2_with fail
  refine HP.out.mono ?_
  rintro e w5 ⟨h1, _, hb8⟩
  obtain rfl := h1 4 rfl (by decide)
  have HA6 := Lib.hid (HI.out.keep HA5.out hb8)
  have HB8 := Lib.hid (HB7.out.trans (hb8.mono HB7.out.size))
  clear hb8 h1 HP HB7 HA5
  have i5 : ItsR (w5.alloc (.cells #[.int .i64 1, .int .i64 3] 3)) (some ⟨w5.heap.size, 0, none⟩) 2 2 (litI [1, 3]) := itsR_litF w5 [1, 3] (by unfold maxLen; decide) (by decide)
  have hb9 : Below w5.heap.size w5 (w5.alloc (.cells #[.int .i64 1, .int .i64 3] 3)) := (Below.refl _ _).alloc (Nat.le_refl _) _
  have HA7 := Lib.hid (HI.out.keep HA6.out hb9)
  have HB9 := Lib.hid (HB8.out.trans (hb9.mono HB8.out.size))
  have HQ := HI.out.places _ _ _ _ _ _ _ _ 2 2 _ _ HA7.out i5
  rw [fxP] at HQ
  have HQ : Hid (Calls Tryz.prog 20 #[.pointer (some pa), .slice (some ⟨w5.heap.size, 0, none⟩) 2 2] (w5.alloc (.cells #[.int .i64 1, .int .i64 3] 3)) fun e w' => (∃ (A2 : Option Addr) (c2 : Nat), e = .returned (.slice A2 2 c2) ∧ ItsR w' A2 2 c2 (lstI [1, 3])) ∧ Below (w5.alloc (.cells #[.int .i64 1, .int .i64 3] 3)).heap.size (w5.alloc (.cells #[.int .i64 1, .int .i64 3] 3)) w') := Lib.hid HQ
  clear hb9 i5 HB8 HA6
  go_wp2_with fail
  refine HQ.out.mono ?_
  rintro e w6 ⟨⟨A2, c2, rfl, hi⟩, hb10⟩
  have HA8 := Lib.hid (HI.out.keep HA7.out hb10)
  have HB10 := Lib.hid (HB9.out.trans (hb10.mono HB9.out.size))
  have HI2 := Lib.hid hi
  clear hb10 hi HQ HB9 HA7
  have i6 : ItsR (w6.alloc (.cells #[.int .i64 1, .int .i64 3] 3)) (some ⟨w6.heap.size, 0, none⟩) 2 2 (litI [1, 3]) := itsR_litF w6 [1, 3] (by unfold maxLen; decide) (by decide)
  have hb11 : Below w6.heap.size w6 (w6.alloc (.cells #[.int .i64 1, .int .i64 3] 3)) := (Below.refl _ _).alloc (Nat.le_refl _) _
  have HSm := Lib.hid (refSame8_any A2 (some ⟨w6.heap.size, 0, none⟩) 2 2 c2 2 _ _ _ _ _ (by unfold maxLen; omega) (Nat.le_refl _) (Nat.le_refl _) (HI2.out.below hb11).2.2.2 i6.2.2.2)
  have HA9 := Lib.hid (HI.out.keep HA8.out hb11)
  have HB11 := Lib.hid (HB10.out.trans (hb11.mono HB10.out.size))
  clear i6 hb11 HI2 HB10 HA8
  go_wp2_with fail
  refine HSm.out.mono ?_
  rintro e w7 ⟨b, rfl, hbi, hb12⟩
  obtain rfl : b = true := hbi.2 ⟨by trivial, fun i hi => by
    have h : i = 0 ∨ i = 1 := by omega
    rcases h with rfl | rfl <;> decide⟩
  have HA10 := Lib.hid (HI.out.keep HA9.out hb12)
  have HB12 := Lib.hid (HB11.out.trans (hb12.mono HB11.out.size))
  have HL := Lib.hid (HI.out.len_ _ _ _ _ _ _ _ w7 HA10.out)
  clear hb12 hbi HSm HB11 HA9
  go_wp2_with fail
  refine HL.out.mono ?_
  rintro e w8 ⟨rfl, hb13⟩
  have HB13 := Lib.hid (HB12.out.trans (hb13.mono HB12.out.size))
  clear hb13 HL HB12 HA10
  go_wp2_with fail
  go_ret
  exact ⟨rfl, HB13.out⟩
end
end Go.Proofs.YtbkdloebbbmkaaaGreat

namespace Go.Proofs.YtbkdloebbbmkaaaGreat

/-- the suffixes a and b begin with the same k numbers. -/
def Shares (V : Nat → Int) (n a b k : Nat) : Prop := ∀ i, i < k → a + i < n ∧ b + i < n ∧ V (a + i) = V (b + i)
section
variable {V : Nat → Int} {n a b c k : Nat}
theorem Shares.zero : Shares V n a b 0 := fun _ hi => absurd hi (Nat.not_lt_zero _)
theorem Shares.symm (h : Shares V n a b k) : Shares V n b a k := fun i hi => ⟨(h i hi).2.1, (h i hi).1, (h i hi).2.2.symm⟩
theorem Shares.trans (h : Shares V n a b k) (h' : Shares V n b c k) : Shares V n a c k := fun i hi => ⟨(h i hi).1, (h' i hi).2.1, (h i hi).2.2.trans (h' i hi).2.2⟩
theorem Shares.less {j : Nat} (h : Shares V n a b k) (hj : j ≤ k) : Shares V n a b j := fun i hi => h i (by omega)
theorem Shares.more (h : Shares V n a b k) (h1 : a + k < n) (h2 : b + k < n) (h3 : V (a + k) = V (b + k)) : Shares V n a b (k + 1) := fun i hi => by
  by_cases e : i = k
  · subst e
    exact ⟨h1, h2, h3⟩
  · exact h i (by omega)
theorem Shares.in (h : Shares V n a b k) (hk : 0 < k) : a + k ≤ n ∧ b + k ≤ n := by
  have := h (k - 1) (by omega)
  omega
theorem Shares.self (h : a + k ≤ n) : Shares V n a a k := fun i hi => ⟨by omega, by omega, rfl⟩
end
/-- how many numbers two suffixes begin with in common. -/
noncomputable def comF (V : Nat → Int) (n a b : Nat) : Nat → Nat
  | 0 => 0
  | m + 1 => open Classical in if Shares V n a b (m + 1) then m + 1 else comF V n a b m
noncomputable def com (V : Nat → Int) (n a b : Nat) : Nat := comF V n a b n
section
variable {V : Nat → Int} {n a b : Nat}
theorem comF_le : ∀ m k, k ≤ m → (k ≤ comF V n a b m ↔ Shares V n a b k) := by
  intro m
  induction m with
  | zero =>
    intro k hk
    obtain rfl : k = 0 := by omega
    exact ⟨fun _ => Shares.zero, fun _ => Nat.zero_le _⟩
  | succ m ih =>
    intro k hk
    unfold comF
    split
    · rename_i h
      exact ⟨fun h1 => h.less h1, fun _ => hk⟩
    · rename_i h
      by_cases e : k = m + 1
      · subst e
        have h1 : comF V n a b m ≤ m := by
          have : ∀ m, comF V n a b m ≤ m := by
            intro m
            induction m with
            | zero => exact Nat.le_refl _
            | succ m ih =>
              unfold comF
              split
              · exact Nat.le_refl _
              · omega
          exact this m
        exact ⟨fun h2 => by omega, fun h2 => absurd h2 h⟩
      · exact ih k (by omega)
theorem com_le {k : Nat} : k ≤ com V n a b ↔ Shares V n a b k := by
  by_cases hk : k ≤ n
  · exact comF_le n k hk
  · have h1 : com V n a b ≤ n := by
      apply Nat.le_of_not_lt
      intro hlt
      have : ∀ m, comF V n a b m ≤ m := by
        intro m
        induction m with
        | zero => exact Nat.le_refl _
        | succ m ih =>
          unfold comF
          split
          · exact Nat.le_refl _
          · omega
      have := this n
      unfold com at hlt
      omega
    exact ⟨fun h => by omega, fun h => by have := h (k - 1) (by omega); omega⟩
theorem com_is {k : Nat} (h : Shares V n a b k) (h' : ¬ (a + k < n ∧ b + k < n ∧ V (a + k) = V (b + k))) : com V n a b = k := by
  have h1 := com_le.2 h
  have h2 : ¬ k + 1 ≤ com V n a b := fun h3 => h' ((com_le.1 h3) k (by omega))
  omega
theorem com_shares : Shares V n a b (com V n a b) := com_le.1 (Nat.le_refl _)
theorem com_symm : com V n a b = com V n b a := Nat.le_antisymm (com_le.2 com_shares.symm) (com_le.2 com_shares.symm)
theorem com_in (ha : a ≤ n) : a + com V n a b ≤ n := by
  have h := com_shares (V := V) (n := n) (a := a) (b := b)
  by_cases h0 : com V n a b = 0
  · omega
  · exact (h.in (by omega)).1
theorem com_congr {V' : Nat → Int} (h : ∀ i, i < n → V i = V' i) : com V n a b = com V' n a b := by
  have h1 : Shares V' n a b (com V n a b) := fun i hi => by
    obtain ⟨h2, h3, h4⟩ := com_shares i hi
    exact ⟨h2, h3, by rw [← h _ h2, ← h _ h3]; exact h4⟩
  have h2 : Shares V n a b (com V' n a b) := fun i hi => by
    obtain ⟨h2, h3, h4⟩ := com_shares i hi
    exact ⟨h2, h3, by rw [h _ h2, h _ h3]; exact h4⟩
  exact Nat.le_antisymm (com_le.2 h1) (com_le.2 h2)
end
/-- of three in order, the outer two share what both inner pairs share. -/
theorem shares_between {V : Nat → Int} {n a b c k : Nat} (h1 : SLess V n a b) (h2 : SLess V n b c) (h : Shares V n a c k) : Shares V n a b k ∧ Shares V n b c k := by
  have hab : Shares V n a b k := by
    obtain ⟨k1, p1, p2, p3, p4⟩ := h1
    obtain ⟨k2, q1, q2, q3, q4⟩ := h2
    have hk : k ≤ k1 := by
      apply Nat.le_of_not_lt
      intro hlt
      obtain ⟨r1, r2, r3⟩ := h k1 hlt
      have p4 : V (a + k1) < V (b + k1) := p4.resolve_left (by omega)
      rcases Nat.lt_trichotomy k2 k1 with e | e | e
      · obtain ⟨s1, s2, s3⟩ := h k2 (by omega)
        have := p1 k2 e
        rcases q4 with q4 | q4 <;> omega
      · subst e
        rcases q4 with q4 | q4 <;> omega
      · have := q1 k1 e
        omega
    intro i hi
    have := h i hi
    exact ⟨this.1, by omega, p1 i (by omega)⟩
  exact ⟨hab, hab.symm.trans h⟩
theorem com_between {V : Nat → Int} {n a b c : Nat} (h1 : SLess V n a b) (h2 : SLess V n b c) : com V n a c = min (com V n a b) (com V n b c) := by
  have h := shares_between h1 h2 (com_shares (V := V) (n := n) (a := a) (b := c))
  have g1 := com_le.2 h.1
  have g2 := com_le.2 h.2
  have g3 : min (com V n a b) (com V n b c) ≤ com V n a c := com_le.2 ((com_shares.less (Nat.min_le_left _ _)).trans (com_shares.less (Nat.min_le_right _ _)))
  omega
/-- the same for places that may be none. -/
noncomputable def comI (V : Nat → Int) (n : Nat) (a b : Int) : Int := if 0 ≤ a ∧ a < (n : Int) ∧ 0 ≤ b ∧ b < (n : Int) then ((com V n a.toNat b.toNat : Nat) : Int) else 0
theorem comI_out {V : Nat → Int} {n : Nat} {a b : Int} (h : ¬ (0 ≤ a ∧ a < (n : Int) ∧ 0 ≤ b ∧ b < (n : Int))) : comI V n a b = 0 := if_neg h
theorem comI_in {V : Nat → Int} {n a b : Nat} (ha : a < n) (hb : b < n) : comI V n (a : Int) (b : Int) = ((com V n a b : Nat) : Int) := by
  unfold comI
  rw [if_pos (by omega), Int.toNat_natCast, Int.toNat_natCast]
theorem comI_symm {V : Nat → Int} {n : Nat} {a b : Int} : comI V n a b = comI V n b a := by
  unfold comI
  by_cases h : 0 ≤ a ∧ a < (n : Int) ∧ 0 ≤ b ∧ b < (n : Int)
  · rw [if_pos h, if_pos (by omega), com_symm]
  · rw [if_neg h, if_neg (by omega)]
theorem comI_room {V : Nat → Int} {n : Nat} {a b : Int} : 0 ≤ comI V n a b ∧ comI V n a b ≤ (n : Int) := by
  unfold comI
  split
  · rename_i h
    have := com_in (V := V) (n := n) (a := a.toNat) (b := b.toNat) (by omega)
    omega
  · omega
/-- what suffixes side by side have in common. -/
noncomputable def lcpI (V : Nat → Int) (n : Nat) (S : Nat → Int) (i : Nat) : Int := if i = 0 then 0 else comI V n (S (i - 1)) (S i)
theorem lcpI_zero {V : Nat → Int} {n : Nat} {S : Nat → Int} : lcpI V n S 0 = 0 := rfl
theorem lcpI_succ {V : Nat → Int} {n : Nat} {S : Nat → Int} {i : Nat} : lcpI V n S (i + 1) = comI V n (S i) (S (i + 1)) := by
  unfold lcpI
  rw [if_neg (by omega), Nat.add_sub_cancel]
theorem lcpI_congr {V : Nat → Int} {n m : Nat} {S S' : Nat → Int} (h : ∀ i, i < m → S i = S' i) : ∀ i, i < m → lcpI V n S i = lcpI V n S' i := fun i hi => by
  cases i with
  | zero => rfl
  | succ i => rw [lcpI_succ, lcpI_succ, h i (by omega), h _ hi]
theorem lcpI_congrV {V V' : Nat → Int} {n : Nat} {S : Nat → Int} (h : ∀ i, i < n → V i = V' i) : ∀ i, lcpI V n S i = lcpI V' n S i := fun i => by
  cases i with
  | zero => rfl
  | succ i =>
    rw [lcpI_succ, lcpI_succ]
    unfold comI
    split
    · rw [com_congr h]
    · rfl
theorem lcpI_room {V : Nat → Int} {n : Nat} {S : Nat → Int} {i : Nat} : 0 ≤ lcpI V n S i ∧ lcpI V n S i ≤ (n : Int) := by
  unfold lcpI
  split
  · omega
  · exact comI_room

/-- the least of the d + 1 numbers behind place x. -/
def lowR (L : Nat → Int) (x : Nat) : Nat → Int
  | 0 => L (x + 1)
  | d + 1 => min (lowR L x d) (L (x + 1 + (d + 1)))
theorem lowR_le (L : Nat → Int) (x : Nat) : ∀ d v, v ≤ lowR L x d ↔ ∀ i, i ≤ d → v ≤ L (x + 1 + i) := by
  intro d
  induction d with
  | zero =>
    intro v
    exact ⟨fun h i hi => by obtain rfl : i = 0 := by omega
                            exact h, fun h => h 0 (Nat.le_refl _)⟩
  | succ d ih =>
    intro v
    unfold lowR
    rw [Int.le_min, ih]
    constructor
    · rintro ⟨h1, h2⟩ i hi
      by_cases e : i = d + 1
      · subst e
        exact h2
      · exact h1 i (by omega)
    · intro h
      exact ⟨fun i hi => h i (by omega), h _ (Nat.le_refl _)⟩
theorem low_one {u v : Int} (h : ∀ x, x ≤ u ↔ x ≤ v) : u = v := Int.le_antisymm ((h u).1 (Int.le_refl _)) ((h v).2 (Int.le_refl _))
theorem lowR_parts (L : Nat → Int) (x d e : Nat) : lowR L x (d + 1 + e) = min (lowR L x d) (lowR L (x + (d + 1)) e) := low_one fun v => by
  rw [Int.le_min, lowR_le, lowR_le, lowR_le]
  constructor
  · intro h
    refine ⟨fun i hi => h i (by omega), fun i hi => ?_⟩
    have := h (d + 1 + i) (by omega)
    rwa [show x + 1 + (d + 1 + i) = x + (d + 1) + 1 + i by omega] at this
  · rintro ⟨h1, h2⟩ i hi
    by_cases hid : i ≤ d
    · exact h1 i hid
    · have := h2 (i - (d + 1)) (by omega)
      rwa [show x + (d + 1) + 1 + (i - (d + 1)) = x + 1 + i by omega] at this
theorem lowR_congr {L L' : Nat → Int} {x d : Nat} (h : ∀ i, i ≤ d → L (x + 1 + i) = L' (x + 1 + i)) : lowR L x d = lowR L' x d := low_one fun v => by
  rw [lowR_le, lowR_le]
  exact ⟨fun g i hi => by rw [← h i hi]; exact g i hi, fun g i hi => by rw [h i hi]; exact g i hi⟩
theorem lowR_last (L : Nat → Int) (x d : Nat) : min (L (x + 1 + d)) (lowR L x d) = lowR L x d := low_one fun v => by
  rw [Int.le_min, lowR_le]
  exact ⟨fun h => h.2, fun h => ⟨h d (Nat.le_refl _), h⟩⟩
theorem lowR_is (L : Nat → Int) (x d : Nat) : ∃ i, i ≤ d ∧ lowR L x d = L (x + 1 + i) := by
  induction d with
  | zero => exact ⟨0, Nat.le_refl _, rfl⟩
  | succ d ih =>
    obtain ⟨i, h1, h2⟩ := ih
    unfold lowR
    by_cases h : lowR L x d ≤ L (x + 1 + (d + 1))
    · exact ⟨i, by omega, by rw [Int.min_eq_left h, h2]⟩
    · exact ⟨d + 1, Nat.le_refl _, by rw [Int.min_eq_right (by omega)]⟩
/-- the least number of a range; -1 if there is none. -/
def rangeI (L : Nat → Int) (n : Nat) (a b : Int) : Int :=
  if 0 ≤ a ∧ a < (n : Int) ∧ 0 ≤ b ∧ b < (n : Int) ∧ a ≠ b then lowR L (min a b).toNat (max a b - min a b - 1).toNat else -1
theorem rangeI_out {L : Nat → Int} {n : Nat} {a b : Int} (h : ¬ (0 ≤ a ∧ a < (n : Int) ∧ 0 ≤ b ∧ b < (n : Int) ∧ a ≠ b)) : rangeI L n a b = -1 := if_neg h
theorem rangeI_up {L : Nat → Int} {n x d : Nat} (h : x + 1 + d < n) : rangeI L n (x : Int) ((x + 1 + d : Nat) : Int) = lowR L x d := by
  unfold rangeI
  rw [if_pos (by omega), Int.min_eq_left (by omega), Int.max_eq_right (by omega), Int.toNat_natCast, show (((x + 1 + d : Nat) : Int) - (x : Int) - 1).toNat = d by omega]
theorem rangeI_symm {L : Nat → Int} {n : Nat} {a b : Int} : rangeI L n a b = rangeI L n b a := by
  unfold rangeI
  by_cases h : 0 ≤ a ∧ a < (n : Int) ∧ 0 ≤ b ∧ b < (n : Int) ∧ a ≠ b
  · rw [if_pos h, if_pos ⟨h.2.2.1, h.2.2.2.1, h.1, h.2.1, Ne.symm h.2.2.2.2⟩, Int.min_comm a b, Int.max_comm a b]
  · rw [if_neg h, if_neg fun g => h ⟨g.2.2.1, g.2.2.2.1, g.1, g.2.1, Ne.symm g.2.2.2.2⟩]
/-- in order: the least between two is what these have in common. -/
theorem low_com {V : Nat → Int} {n x : Nat} {s : Nat → Nat} (h : IsSA V n s) : ∀ d, x + 1 + d < n → lowR (lcpI V n fun i => ((s i : Nat) : Int)) x d = ((com V n (s x) (s (x + 1 + d)) : Nat) : Int) := by
  intro d
  induction d with
  | zero =>
    intro hd
    show lcpI V n (fun i => ((s i : Nat) : Int)) (x + 1) = _
    rw [lcpI_succ, comI_in (h.1 _ (by omega)) (h.1 _ (by omega))]
  | succ d ih =>
    intro hd
    unfold lowR
    rw [ih (by omega), show x + 1 + (d + 1) = (x + 1 + d) + 1 by omega, lcpI_succ, comI_in (h.1 _ (by omega)) (h.1 _ (by omega)), com_between (h.2 x (x + 1 + d) (by omega) (by omega)) (h.2 (x + 1 + d) (x + 1 + d + 1) (by omega) (by omega))]
    omega
theorem range_com {V : Nat → Int} {n a b : Nat} {s : Nat → Nat} (h : IsSA V n s) (ha : a < n) (hb : b < n) (hne : a ≠ b) : rangeI (lcpI V n fun i => ((s i : Nat) : Int)) n (a : Int) (b : Int) = comI V n ((s a : Nat) : Int) ((s b : Nat) : Int) := by
  rw [comI_in (h.1 _ ha) (h.1 _ hb)]
  rcases Nat.lt_or_gt_of_ne hne with hlt | hlt
  · obtain ⟨d, rfl⟩ := Nat.le.dest (show a + 1 ≤ b from hlt)
    rw [rangeI_up hb, low_com h d hb]
  · obtain ⟨d, rfl⟩ := Nat.le.dest (show b + 1 ≤ a from hlt)
    rw [rangeI_symm, rangeI_up ha, low_com h d ha, com_symm]
/-- 1 for what holds. -/
noncomputable def ind (p : Prop) : Nat := open Classical in if p then 1 else 0
theorem ind_congr {p q : Prop} (h : p ↔ q) : ind p = ind q := by rw [propext h]
theorem ind_pos {p : Prop} (h : p) : ind p = 1 := if_pos h
theorem ind_neg {p : Prop} (h : ¬ p) : ind p = 0 := if_neg h
theorem ind_dec (p : Prop) {inst : Decidable p} : (if (@decide p inst) = true then 1 else 0) = ind p := by
  by_cases h : p
  · rw [ind_pos h]; simp [h]
  · rw [ind_neg h]; simp [h]
/-- of the places of a row, the latest first: how many begin a part of k numbers that none ahead begins. -/
noncomputable def firsts (V : Nat → Int) (n k : Nat) : List Nat → Nat
  | [] => 0
  | a :: L => firsts V n k L + ind (a + k ≤ n ∧ ∀ c ∈ L, ¬ Shares V n c a k)
theorem firsts_perm {V : Nat → Int} {n k : Nat} (hk : 0 < k) {L L' : List Nat} (h : L.Perm L') : firsts V n k L = firsts V n k L' := by
  induction h with
  | nil => rfl
  | cons a h ih =>
    unfold firsts
    rw [ih]
    congr 1
    exact ind_congr (and_congr Iff.rfl (forall_congr' fun c => by rw [h.mem_iff]))
  | swap a b L =>
    show firsts V n k L + _ + _ = firsts V n k L + _ + _
    rw [Nat.add_assoc, Nat.add_assoc]
    congr 1
    by_cases hs : Shares V n a b k
    · have h1 := hs.in hk
      have e1 : (a + k ≤ n ∧ ∀ c ∈ L, ¬ Shares V n c a k) ↔ (b + k ≤ n ∧ ∀ c ∈ L, ¬ Shares V n c b k) :=
        ⟨fun h => ⟨h1.2, fun c hc g => h.2 c hc (g.trans hs.symm)⟩, fun h => ⟨h1.1, fun c hc g => h.2 c hc (g.trans hs)⟩⟩
      have e2 : ¬ (b + k ≤ n ∧ ∀ c ∈ a :: L, ¬ Shares V n c b k) := fun h => h.2 a (List.mem_cons_self ..) hs
      have e3 : ¬ (a + k ≤ n ∧ ∀ c ∈ b :: L, ¬ Shares V n c a k) := fun h => h.2 b (List.mem_cons_self ..) hs.symm
      rw [ind_neg e2, ind_neg e3, ind_congr e1]
    · have e2 : (b + k ≤ n ∧ ∀ c ∈ a :: L, ¬ Shares V n c b k) ↔ (b + k ≤ n ∧ ∀ c ∈ L, ¬ Shares V n c b k) := and_congr Iff.rfl ⟨fun h c hc => h c (List.mem_cons_of_mem _ hc), fun h c hc => by
        rcases List.mem_cons.1 hc with rfl | hc
        · exact hs
        · exact h c hc⟩
      have e3 : (a + k ≤ n ∧ ∀ c ∈ b :: L, ¬ Shares V n c a k) ↔ (a + k ≤ n ∧ ∀ c ∈ L, ¬ Shares V n c a k) := and_congr Iff.rfl ⟨fun h c hc => h c (List.mem_cons_of_mem _ hc), fun h c hc => by
        rcases List.mem_cons.1 hc with rfl | hc
        · exact fun g => hs g.symm
        · exact h c hc⟩
      rw [ind_congr e2, ind_congr e3]
      exact Nat.add_comm _ _
  | trans _ _ ih1 ih2 => exact ih1.trans ih2
/-- the same for parts of 1 to m numbers. -/
noncomputable def firstsTo (V : Nat → Int) (n : Nat) (L : List Nat) : Nat → Nat
  | 0 => 0
  | m + 1 => firstsTo V n L m + firsts V n (m + 1) L
theorem firstsTo_perm {V : Nat → Int} {n : Nat} {L L' : List Nat} (h : L.Perm L') : ∀ m, firstsTo V n L m = firstsTo V n L' m := by
  intro m
  induction m with
  | zero => rfl
  | succ m ih => unfold firstsTo; rw [ih, firsts_perm (by omega) h]
/-- those that begin at a: of 1 to m numbers. -/
noncomputable def newAt (V : Nat → Int) (n : Nat) (L : List Nat) (a m : Nat) : Nat := open Classical in Pl.cnt (fun k => decide (a + (k + 1) ≤ n ∧ ∀ c ∈ L, ¬ Shares V n c a (k + 1))) m
theorem newAt_succ (V : Nat → Int) (n : Nat) (L : List Nat) (a m : Nat) : newAt V n L a (m + 1) = newAt V n L a m + ind (a + (m + 1) ≤ n ∧ ∀ c ∈ L, ¬ Shares V n c a (m + 1)) := by
  unfold newAt
  rw [Pl.cnt_succ]
  exact congrArg _ (ind_dec _)
theorem firstsTo_cons (V : Nat → Int) (n : Nat) (a : Nat) (L : List Nat) : ∀ m, firstsTo V n (a :: L) m = firstsTo V n L m + newAt V n L a m := by
  intro m
  induction m with
  | zero => rfl
  | succ m ih =>
    show firstsTo V n (a :: L) m + (firsts V n (m + 1) L + _) = firstsTo V n L m + firsts V n (m + 1) L + _
    rw [ih, newAt_succ]
    omega
theorem newAt_end {V : Nat → Int} {n a m : Nat} {L : List Nat} (h : n ≤ a + m) : newAt V n L a m = newAt V n L a (n - a) := by
  obtain ⟨d, rfl⟩ := Nat.le.dest (show n - a ≤ m by omega)
  clear h
  induction d with
  | zero => rfl
  | succ d ih =>
    rw [show n - a + (d + 1) = n - a + d + 1 by omega, newAt_succ, ih, ind_neg (fun h => by omega)]
    rfl
/-- the first i places of an order, the latest first. -/
def downS (s : Nat → Nat) : Nat → List Nat
  | 0 => []
  | i + 1 => s i :: downS s i
theorem mem_downS {s : Nat → Nat} {p : Nat} : ∀ {i}, p ∈ downS s i ↔ ∃ j, j < i ∧ s j = p := by
  intro i
  induction i with
  | zero => exact ⟨fun h => absurd h (List.not_mem_nil), fun ⟨j, hj, _⟩ => absurd hj (Nat.not_lt_zero j)⟩
  | succ i ih =>
    unfold downS
    rw [List.mem_cons, ih]
    constructor
    · rintro (rfl | ⟨j, hj, e⟩)
      · exact ⟨i, by omega, rfl⟩
      · exact ⟨j, by omega, e⟩
    · rintro ⟨j, hj, e⟩
      by_cases h : j = i
      · subst h
        exact .inl e.symm
      · exact .inr ⟨j, by omega, e⟩
theorem count_downS {s : Nat → Nat} {p : Nat} : ∀ {i}, (∀ a b, a < i → b < i → s a = s b → a = b) → (downS s i).count p = ind (∃ j, j < i ∧ s j = p) := by
  intro i
  induction i with
  | zero => intro _; rw [ind_neg (fun ⟨j, hj, _⟩ => absurd hj (Nat.not_lt_zero j))]; rfl
  | succ i ih =>
    intro hi
    have h1 := ih (fun a b ha hb => hi a b (by omega) (by omega))
    unfold downS
    rw [List.count_cons, h1]
    by_cases e : s i = p
    · subst e
      rw [ind_neg (fun ⟨j, hj, e'⟩ => by have := hi j i (by omega) (by omega) e'; omega), ind_pos ⟨i, by omega, rfl⟩]
      simp
    · have : (∃ j, j < i + 1 ∧ s j = p) ↔ (∃ j, j < i ∧ s j = p) := ⟨fun ⟨j, hj, e'⟩ => ⟨j, by
        apply Nat.lt_of_le_of_ne (by omega)
        rintro rfl
        exact e e', e'⟩, fun ⟨j, hj, e'⟩ => ⟨j, by omega, e'⟩⟩
      rw [ind_congr this]
      simp [e]
theorem downS_perm {V : Nat → Int} {n : Nat} {s : Nat → Nat} (h : IsSA V n s) : (downS s n).Perm (downS id n) := by
  rw [List.perm_iff_count]
  intro p
  rw [count_downS (fun a b ha hb he => h.inj ha hb he), count_downS (s := id) (fun a b _ _ he => he)]
  have : (∃ j, j < n ∧ s j = p) ↔ (∃ j, j < n ∧ id j = p) := ⟨fun ⟨j, hj, e⟩ => ⟨p, by rw [← e]; exact h.1 j hj, rfl⟩, fun ⟨j, hj, e⟩ => by
    have e : j = p := e
    exact h.onto (by omega)⟩
  exact ind_congr this
/-- the lengths of the suffixes at places, together. -/
def lensL (n : Nat) : List Nat → Nat
  | [] => 0
  | a :: L => lensL n L + (n - a)
theorem lensL_perm {n : Nat} {L L' : List Nat} (h : L.Perm L') : lensL n L = lensL n L' := by
  induction h with
  | nil => rfl
  | cons a h ih => unfold lensL; rw [ih]
  | swap a b L => show lensL n L + (n - a) + (n - b) = lensL n L + (n - b) + (n - a); omega
  | trans _ _ ih1 ih2 => exact ih1.trans ih2
theorem lensL_all : ∀ n, n < 25 → lensL n (downS id n) = n * (n + 1) / 2 := by decide
/-- numbers together. -/
def sumI (L : Nat → Int) : Nat → Int
  | 0 => 0
  | i + 1 => sumI L i + L i
theorem cnt_between (l h : Nat) (hlh : l ≤ h) : ∀ m, Pl.cnt (fun k => decide (l ≤ k ∧ k < h)) m = min m h - min m l := by
  intro m
  induction m with
  | zero => simp [Pl.cnt]
  | succ m ih =>
    rw [Pl.cnt_succ, ih]
    by_cases e : l ≤ m ∧ m < h
    · simp only [e, and_self, decide_true, if_true]
      omega
    · rw [decide_eq_false e]
      simp
      omega
/-- in order: at number i there begin as many new parts as its suffix is long, less what it shares with the one ahead. -/
theorem newAt_sorted {V : Nat → Int} {n i : Nat} {s : Nat → Nat} (h : IsSA V n s) (hi : i < n) : ((newAt V n (downS s i) (s i) n : Nat) : Int) = (n : Int) - ((s i : Nat) : Int) - lcpI V n (fun i => ((s i : Nat) : Int)) i := by
  have hsi := h.1 i hi
  obtain ⟨l, hl, hle, hc⟩ : ∃ l : Nat, lcpI V n (fun i => ((s i : Nat) : Int)) i = (l : Int) ∧ s i + l ≤ n ∧ ∀ k, (∃ c, c ∈ downS s i ∧ Shares V n c (s i) (k + 1)) ↔ k + 1 ≤ l := by
    cases i with
    | zero => exact ⟨0, rfl, by omega, fun k => ⟨fun ⟨c, hc, _⟩ => absurd hc List.not_mem_nil, fun h => by omega⟩⟩
    | succ i =>
      refine ⟨com V n (s i) (s (i + 1)), ?_, ?_, fun k => ?_⟩
      · rw [lcpI_succ, comI_in (h.1 i (by omega)) hsi]
      · rw [com_symm]
        exact com_in (by omega)
      · rw [com_le]
        constructor
        · rintro ⟨c, hc, hs⟩
          obtain ⟨j, hj, rfl⟩ := mem_downS.1 hc
          by_cases e : j = i
          · subst e
            exact hs
          · exact (shares_between (h.2 j i (by omega) (by omega)) (h.2 i (i + 1) (by omega) hi) hs).2
        · intro hs
          exact ⟨s i, mem_downS.2 ⟨i, by omega, rfl⟩, hs⟩
  rw [hl]
  have e : newAt V n (downS s i) (s i) n = Pl.cnt (fun k => decide (l ≤ k ∧ k < n - s i)) n := by
    unfold newAt
    congr 1
    funext k
    rw [decide_eq_decide]
    have h1 := hc k
    constructor
    · rintro ⟨h2, h3⟩
      refine ⟨?_, by omega⟩
      apply Nat.le_of_not_lt
      intro hlt
      obtain ⟨c, h4, h5⟩ := h1.2 hlt
      exact h3 c h4 h5
    · rintro ⟨h2, h3⟩
      refine ⟨by omega, fun c h4 h5 => ?_⟩
      have := h1.1 ⟨c, h4, h5⟩
      omega
  rw [e, cnt_between _ _ (by omega)]
  omega
theorem firsts_sorted {V : Nat → Int} {n : Nat} {s : Nat → Nat} (h : IsSA V n s) : ∀ i, i ≤ n → ((firstsTo V n (downS s i) n : Nat) : Int) = ((lensL n (downS s i) : Nat) : Int) - sumI (lcpI V n fun i => ((s i : Nat) : Int)) i := by
  have nil : ∀ m, firstsTo V n [] m = 0 := by
    intro m
    induction m with
    | zero => rfl
    | succ m ih => unfold firstsTo; rw [ih]; rfl
  intro i
  induction i with
  | zero => intro _; show ((firstsTo V n [] n : Nat) : Int) = _; rw [nil]; rfl
  | succ i ih =>
    intro hi
    have h1 := newAt_sorted h (show i < n from hi)
    have h2 := ih (by omega)
    have hsi := h.1 i hi
    show ((firstsTo V n (s i :: downS s i) n : Nat) : Int) = ((lensL n (downS s i) + (n - s i) : Nat) : Int) - (sumI (lcpI V n fun i => ((s i : Nat) : Int)) i + lcpI V n (fun i => ((s i : Nat) : Int)) i)
    rw [firstsTo_cons]
    omega
/-- as many unlike parts as beginnings, less what each suffix has in common with the one ahead. -/
theorem unlike_parts {V : Nat → Int} {n : Nat} {s : Nat → Nat} (h : IsSA V n s) (hn : n < 25) : ((n * (n + 1) / 2 : Nat) : Int) - sumI (lcpI V n fun i => ((s i : Nat) : Int)) n = ((firstsTo V n (downS id n) n : Nat) : Int) := by
  rw [← firstsTo_perm (downS_perm h), firsts_sorted h n (Nat.le_refl _), lensL_perm (downS_perm h), lensL_all n hn]
end Go.Proofs.YtbkdloebbbmkaaaGreat
