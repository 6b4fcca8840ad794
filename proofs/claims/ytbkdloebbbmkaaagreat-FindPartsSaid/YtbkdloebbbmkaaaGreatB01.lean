/- What every law's row asks in the end: the call returned true and nothing that was there has turned, so each argument reads as it read. Plain arithmetic of packed lists: no program is named here. How many bits are set: plain arithmetic; no program is named here. Counting bits, and the place of the bit of a number: plain arithmetic; no program is named here. Rising places, their high and low parts: plain arithmetic; no program is named here. Words for memory: blocks known whole, and packed lists as they lie in memory. Contracts of the functions of package pack: what each call returns and what it does to memory. Contracts of New, Words, Len and Width of package pack. A slice of ints that came in; which of them rise below a bound. The order of a list's suffixes: which of two is less; the one list of all places in that order; a permutation turned. Plain: no program is named here. A slice of bytes that came in. Bytes that the call itself collects: append of one, append of all bytes of a slice, as steps of the walk. -/
import Derived.Test.YtbkdloebbbmkaaaGreatRows
import Derived.WalkKit
import Derived.ProofKit
import Derived.OpenShut
import Derived.WalkSpells
import Derived.WalkLawsBesides
import Derived.Lib.Hide
import Derived.Deep.QuietTactic
import Derived.BigQuiet
import Derived.BigRegion
import Derived.Laws.MakeOwn
import Derived.Laws.CopyOwn
import Derived.Laws.AppendOwnNone
namespace Go.Proofs.YtbkdloebbbmkaaaGreat
open Go.ChangeShapes Go.WideShapes Go.ChangeAt Go.RowKit

/-- a uint64 is a natural number below 2^64; an int lies within its bounds. -/
theorem u64_nat {a : Int} (h : (Lit.int .u64 a).wf = true) : ∃ x : Nat, x < 2 ^ 64 ∧ a = (x : Int) := by
  simp [Lit.wf, IntKind.min, IntKind.max, IntKind.bits, IntKind.signed] at h
  exact ⟨a.toNat, by omega, by omega⟩
theorem i64_in {a : Int} (h : (Lit.int .i64 a).wf = true) : -9223372036854775808 ≤ a ∧ a ≤ 9223372036854775807 := by
  simp [Lit.wf, IntKind.min, IntKind.max, IntKind.bits, IntKind.signed] at h
  omega

theorem cell_in {w : World} {a : Addr} {v : Value} (h : w.cell? a = some v) : a.block < w.heap.size := by
  apply Nat.lt_of_not_le
  intro hge
  simp [World.cell?, Array.getElem?_eq_none hge] at h
theorem add_block (a : Addr) (j : Nat) : (a.add j).block = a.block := by unfold Addr.add; split <;> rfl

/-- a slice of settings, as it lies: what place and what number, at each index. -/
def Ops (w : World) (B : Nat) (A : Option Addr) (n : Nat) (I : Nat → Int) (V : Nat → Nat) : Prop :=
  ∀ k, k < n → ∃ ad : Addr, A = some ad ∧ ad.block < B ∧ w.cell? (ad.add (k * 2)) = some (.int .i64 (I k)) ∧ w.cell? ⟨(ad.add (k * 2)).block, (ad.add (k * 2)).off + 1, none⟩ = some (.int .u64 ((V k : Nat) : Int)) ∧ V k < 2 ^ 64 ∧
    -9223372036854775808 ≤ I k ∧ I k ≤ 9223372036854775807
theorem Ops.below {w w' : World} {B : Nat} {A : Option Addr} {n : Nat} {I : Nat → Int} {V : Nat → Nat} (h : Ops w B A n I V) (hb : Below B w w') : Ops w' B A n I V := fun k hk => by
  obtain ⟨ad, e, h1, h2, h3, h4⟩ := h k hk
  exact ⟨ad, e, h1, (hb.cell (by rw [add_block]; exact h1)).trans h2, (hb.cell (by show (ad.add (k * 2)).block < B; rw [add_block]; exact h1)).trans h3, h4⟩

/-- a slice of words, as it lies. -/
def Wds (w : World) (B : Nat) (A : Option Addr) (n : Nat) (V : Nat → Nat) : Prop :=
  ∀ k, k < n → ∃ ad : Addr, A = some ad ∧ ad.block < B ∧ w.cell? (ad.add k) = some (.int .u64 ((V k : Nat) : Int)) ∧ V k < 2 ^ 64
theorem Wds.below {w w' : World} {B : Nat} {A : Option Addr} {n : Nat} {V : Nat → Nat} (h : Wds w B A n V) (hb : Below B w w') : Wds w' B A n V := fun k hk => by
  obtain ⟨ad, e, h1, h2, h3⟩ := h k hk
  exact ⟨ad, e, h1, (hb.cell (by rw [add_block]; exact h1)).trans h2, h3⟩

theorem Wds.mono_ {w : World} {B B' : Nat} {A : Option Addr} {n : Nat} {V : Nat → Nat} (h : Wds w B A n V) (hB : B ≤ B') : Wds w B' A n V := fun k hk => by
  obtain ⟨ad, e, h1, h2, h3⟩ := h k hk
  exact ⟨ad, e, Nat.lt_of_lt_of_le h1 hB, h2, h3⟩
theorem cells_u64 : Tryz.prog.cellsOf 70 = 1 := by kernel_rfl
theorem cells_int : Tryz.prog.cellsOf 3 = 1 := by kernel_rfl

section
variable {H : Type} {enc : TypeId × Value → H}
set_option maxRecDepth 100000 in
theorem open_words {W : World} {v : Value} {d : DataW H} {p : List MemPlace} {b : Nat} {r : Reach} (hv : Value.okWide Tryz.prog W r b 90 v) (h : DataW.Trod enc Tryz.prog W 0 (fun _ => true) true 90 v d p) :
    ∃ (A : Option Addr) (n c : Nat) (V : Nat → Nat), v = .slice A n c ∧ n ≤ maxLen ∧ (A = none → n = 0 ∧ c = 0) ∧ Wds W W.heap.size A n V := by
  obtain ⟨a0, len, cap, rfl⟩ := okWide_slice Tryz.underlying90 hv
  obtain ⟨fuel, hf⟩ := h
  rcases open_ints Tryz.underlying90 Tryz.underlying70 cells_u64 hf with ⟨hcs, _⟩ | ⟨a, n, c, zs, hcs, _, hl, hm, hz, _, hcell, hwz⟩
  · simp [Value.cells] at hcs
    obtain ⟨rfl, rfl, rfl⟩ := hcs
    exact ⟨none, 0, 0, fun _ => 0, rfl, Nat.zero_le _, fun _ => ⟨rfl, rfl⟩, fun k hk => absurd hk (by omega)⟩
  · simp [Value.cells] at hcs
    obtain ⟨rfl, rfl, rfl⟩ := hcs
    have hnm : len ≤ zs.length := by rw [hz]; split <;> omega
    refine ⟨some a, len, cap, fun k => (zs.getD k 0).toNat, rfl, Nat.le_trans hl hm, fun e => (by cases e), fun k hk => ?_⟩
    have e0 := hcell k (by omega)
    have hlt := cell_in e0
    rw [add_block] at hlt
    have hmem : zs.getD k 0 ∈ zs := by
      rw [List.getD_eq_getElem?_getD, List.getElem?_eq_getElem (by omega)]
      exact List.getElem_mem _
    obtain ⟨x, hx, hxz⟩ := u64_nat (hwz _ hmem)
    refine ⟨a, rfl, hlt, ?_, ?_⟩
    · show W.cell? (a.add k) = some (.int .u64 (((zs.getD k 0).toNat : Nat) : Int))
      rw [e0, hxz, Int.toNat_natCast]
    · show (zs.getD k 0).toNat < 2 ^ 64
      rw [hxz]
      exact hx
end

section
variable {H : Type} {enc : TypeId × Value → H}

theorem law_args (hl : laidOutB Tryz.prog = true) {W W' : World} (hb : Below W.heap.size W W') (sp : Nat → Bool) : ∀ (ts : List TypeId) (vs : List Value) (ds : List (DataW H)) (ps : List MemPlace),
    (∀ t ∈ ts, Tryz.prog.readableRec t = true ∧ t < Tryz.prog.types.size) → DataW.TrodAll enc Tryz.prog W 0 (fun _ => true) true ts vs ds ps → (∀ x ∈ ps, x.block < W.heap.size) → (∀ x ∈ ps, sp x.block = true) →
    DataW.TrodAll enc Tryz.prog W' 0 sp true ts vs ds ps
  | [], vs, ds, ps, _, h, _, _ => by
    obtain ⟨rfl, rfl, rfl⟩ := trodAll_nil h
    exact trodAll_mk0
  | t :: ts, vs, ds, ps, hts, h, hlt, hsp => by
    obtain ⟨v, vs, d, ds, p, q, rfl, rfl, rfl, h0, hrest⟩ := trodAll_cons h
    obtain ⟨hr, hn⟩ := hts t (List.mem_cons_self ..)
    exact trodAll_cons_mk (WideElems.Trod_stays hl hr hn h0 (fun x hx => hb.same (hlt x (by simp [hx]))) (fun x hx => hsp x (by simp [hx])))
      (law_args hl hb sp ts vs ds q (fun t ht => hts t (List.mem_cons_of_mem _ ht)) hrest (fun x hx => hlt x (by simp [hx])) (fun x hx => hsp x (by simp [hx])))

set_option maxRecDepth 100000 in
theorem law_post {f : Func} {s : ChangeSpec} {fresh handsOn again : Bool} {W W' : World} {args : Array Value} {ds : List (DataW H)} {before : List MemPlace} (hl : laidOutB Tryz.prog = true)
    (hvars : s.vars = []) (hres : f.resultTypes = #[4]) (hfn : s.fn H ds = { results := [.lit (.bool true)], args := ds }) (hts : ∀ t ∈ f.params.toList, Tryz.prog.readableRec t = true ∧ t < Tryz.prog.types.size)
    (hW : DataW.Whole enc Tryz.prog f.params.toList s.vars false W args.toList ds [] before) (hb : Below W.heap.size W W') :
    s.post enc Tryz.prog f false fresh handsOn again W args (.bool true) W' := by
  have hlt : ∀ p ∈ before, p.block < W.heap.size := fun p hp => hW.lt p hp
  have hfn' : s.fn H (ds ++ []) = { results := [.lit (.bool true)], args := ds } := by rw [List.append_nil]; exact hfn
  have hW0 := hW
  obtain ⟨p, q, hA, hV, hpq, hz, _⟩ := hW
  rw [hvars] at hV
  obtain ⟨_, rfl⟩ := trodVars_none hV
  rw [List.append_nil] at hpq
  subst hpq
  have hargs := fun sp hsp => law_args hl hb sp f.params.toList args.toList ds before hts hA hlt hsp
  have hbool : ∀ (b : Nat) (sp : Nat → Bool) (hd : Bool), DataW.TrodAll enc Tryz.prog W' b sp hd f.resultTypes.toList ((Value.bool true).resultList f.resultTypes.size) [.lit (.bool true)] [] := fun b sp hd => by
    rw [hres]
    exact trodAll_cons_mk (shut_bool Tryz.underlying4 _) trodAll_mk0
  refine ⟨ds, [], before, [], before, [], hW0, ?_, ?_, ?_, World.keptBut_mono (fun x hx => ⟨hx, .inr (by simpa using hx)⟩) (hb.frame (· ∈ before)), fun _ => ⟨?_, .lit (.bool true) :: ds, [], before, ⟨before, [], ?_, ?_, ?_, ?_, ?_⟩, ?_⟩⟩
  · rw [hfn']
    exact hbool _ _ _
  · rw [hfn']
    exact hargs _ (fun x hx => by simpa using hlt x hx)
  · rw [hvars, hfn']; rfl
  · exact ok_one hres rfl (okWide_bool_mk Tryz.underlying4 _)
  · rw [hres]
    exact trodAll_cons_mk (shut_bool Tryz.underlying4 _) (hargs _ (fun _ _ => rfl))
  · rw [hvars]; rfl
  · simp
  · intro b off hp
    rw [hb.frozen (hlt _ hp)]
    exact hz b off hp
  · intro h; cases h
  · intro p hp _; exact hp
end
end Go.Proofs.YtbkdloebbbmkaaaGreat

namespace Go.Proofs.YtbkdloebbbmkaaaGreat.Pl

/-- number i of a list of words, each number of that width, as the code reckons it. -/
def getN (ws : List Nat) (width i : Nat) : Nat :=
  let q := i * width / 64
  let r := i * width % 64
  (if 64 < r + width then ws.getD q 0 / 2 ^ r ||| ws.getD (q + 1) 0 * 2 ^ (64 - r) % 2 ^ 64 else ws.getD q 0 / 2 ^ r) &&& (2 ^ width - 1)

/-- a word whose bits under a mask are taken off, and others laid there. -/
def mixN (x m v : Nat) : Nat := (x &&& (2 ^ 64 - 1 - m)) ||| v

def setN (ws : List Nat) (width i v : Nat) : List Nat :=
  let q := i * width / 64
  let r := i * width % 64
  let ws1 := ws.set q (mixN (ws.getD q 0) ((2 ^ width - 1) * 2 ^ r % 2 ^ 64) (v * 2 ^ r % 2 ^ 64))
  if 64 < r + width then ws1.set (q + 1) (mixN (ws.getD (q + 1) 0) ((2 ^ width - 1) / 2 ^ (64 - r)) (v / 2 ^ (64 - r))) else ws1

/-- bit b of a list of words. -/
def bitAt (ws : List Nat) (b : Nat) : Bool := (ws.getD (b / 64) 0).testBit (b % 64)

theorem tb_div (x s j : Nat) : (x / 2 ^ s).testBit j = x.testBit (s + j) := by
  rw [← Nat.shiftRight_eq_div_pow, Nat.testBit_shiftRight]
theorem tb_mul (x s j : Nat) : (x * 2 ^ s).testBit j = (decide (s ≤ j) && x.testBit (j - s)) := by
  rw [← Nat.shiftLeft_eq, Nat.testBit_shiftLeft]
theorem tb_ones (k j : Nat) : (2 ^ k - 1).testBit j = decide (j < k) := Nat.testBit_two_pow_sub_one k j
theorem tb_big {x j : Nat} (h : x < 2 ^ 64) (hj : 64 ≤ j) : x.testBit j = false :=
  Nat.testBit_lt_two_pow (Nat.lt_of_lt_of_le h (Nat.pow_le_pow_right (by omega) hj))

def Small (ws : List Nat) : Prop := ∀ x ∈ ws, x < 2 ^ 64
theorem Small.at_ {ws : List Nat} (h : Small ws) (k : Nat) : ws.getD k 0 < 2 ^ 64 := by
  rw [List.getD_eq_getElem?_getD]
  by_cases hk : k < ws.length
  · rw [List.getElem?_eq_getElem hk]; exact h _ (List.getElem_mem hk)
  · rw [List.getElem?_eq_none (by omega)]; decide
theorem Small.set_ {ws : List Nat} (h : Small ws) (k : Nat) {x : Nat} (hx : x < 2 ^ 64) : Small (ws.set k x) := by
  intro y hy
  rcases List.mem_or_eq_of_mem_set hy with hy | rfl
  · exact h y hy
  · exact hx

theorem getN_testBit (ws : List Nat) (hs : Small ws) (width i j : Nat) (hw : width ≤ 64) :
    (getN ws width i).testBit j = (decide (j < width) && bitAt ws (i * width + j)) := by
  unfold getN bitAt
  generalize i * width = b
  have hr : b % 64 < 64 := Nat.mod_lt _ (by decide)
  simp only [Nat.testBit_and, tb_ones]
  by_cases hj : j < width
  · simp only [hj, decide_true, Bool.and_true, Bool.true_and]
    by_cases hc : b % 64 + j < 64
    · have e1 : (b + j) / 64 = b / 64 := by omega
      have e2 : (b + j) % 64 = b % 64 + j := by omega
      rw [e1, e2]
      split
      · rw [Nat.testBit_or, tb_div, Nat.testBit_mod_two_pow, tb_mul]
        have : ¬ 64 - b % 64 ≤ j := by omega
        simp [this]
      · rw [tb_div]
    · have e1 : (b + j) / 64 = b / 64 + 1 := by omega
      have e2 : (b + j) % 64 = j - (64 - b % 64) := by omega
      rw [e1, e2, if_pos (by omega), Nat.testBit_or, tb_div, Nat.testBit_mod_two_pow, tb_mul, tb_big (hs.at_ _) (by omega)]
      have h1 : 64 - b % 64 ≤ j := by omega
      have h2 : j < 64 := by omega
      simp [h1, h2]
  · simp [hj]

theorem mixN_testBit (x m v j : Nat) (hx : x < 2 ^ 64) (hm : m < 2 ^ 64) : (mixN x m v).testBit j = ((x.testBit j && !m.testBit j) || v.testBit j) := by
  unfold mixN
  rw [Nat.testBit_or, Nat.testBit_and]
  congr 1
  by_cases hj : j < 64
  · have e : 2 ^ 64 - 1 - m = 2 ^ 64 - (m + 1) := by omega
    rw [e, Nat.testBit_two_pow_sub_succ hm]
    simp [hj]
  · rw [tb_big hx (by omega)]
    simp
theorem mixN_lt (x m v : Nat) (hx : x < 2 ^ 64) (hv : v < 2 ^ 64) : mixN x m v < 2 ^ 64 :=
  Nat.or_lt_two_pow (Nat.lt_of_le_of_lt Nat.and_le_left hx) hv

theorem bitAt_set (ws : List Nat) (k x b : Nat) (hk : k < ws.length) : bitAt (ws.set k x) b = if b / 64 = k then x.testBit (b % 64) else bitAt ws b := by
  unfold bitAt
  simp only [List.getD_eq_getElem?_getD, List.getElem?_set]
  by_cases h : b / 64 = k
  · rw [if_pos h, if_pos h.symm, if_pos hk]
    rfl
  · rw [if_neg h, if_neg (fun e => h e.symm)]

theorem two_pow_le_64 {k : Nat} (h : k ≤ 64) : 2 ^ k ≤ 2 ^ 64 := Nat.pow_le_pow_right (by omega) h
theorem div_lt_64 {v s : Nat} (h : v < 2 ^ 64) : v / 2 ^ s < 2 ^ 64 := Nat.lt_of_le_of_lt (Nat.div_le_self _ _) h

theorem setN_length (ws : List Nat) (width i v : Nat) : (setN ws width i v).length = ws.length := by
  unfold setN
  dsimp only
  split <;> simp

theorem setN_small (ws : List Nat) (hs : Small ws) (width i v : Nat) (hw : width ≤ 64) (hv : v < 2 ^ width) : Small (setN ws width i v) := by
  have hv64 : v < 2 ^ 64 := Nat.lt_of_lt_of_le hv (two_pow_le_64 hw)
  unfold setN
  dsimp only
  have h1 := hs.set_ (i * width / 64) (mixN_lt (ws.getD (i * width / 64) 0) ((2 ^ width - 1) * 2 ^ (i * width % 64) % 2 ^ 64) (v * 2 ^ (i * width % 64) % 2 ^ 64) (hs.at_ _) (Nat.mod_lt _ (by decide)))
  split
  · exact h1.set_ _ (mixN_lt _ _ _ (hs.at_ _) (div_lt_64 hv64))
  · exact h1

theorem setN_bitAt (ws : List Nat) (hs : Small ws) (width i v b : Nat) (h0 : 1 ≤ width) (hw : width ≤ 64) (hv : v < 2 ^ width) (hl : i * width + width ≤ 64 * ws.length) :
    bitAt (setN ws width i v) b = if i * width ≤ b ∧ b < i * width + width then v.testBit (b - i * width) else bitAt ws b := by
  have hv64 : v < 2 ^ 64 := Nat.lt_of_lt_of_le hv (two_pow_le_64 hw)
  have hm64 : 2 ^ width - 1 < 2 ^ 64 := by have := two_pow_le_64 hw; have := Nat.two_pow_pos width; omega
  unfold setN
  dsimp only
  generalize i * width = c at *
  have hq : c / 64 < ws.length := by omega
  have hvj : ∀ j, width ≤ j → v.testBit j = false := fun j hj => Nat.testBit_lt_two_pow (Nat.lt_of_lt_of_le hv (Nat.pow_le_pow_right (by omega) hj))
  have hfirst : ∀ b, bitAt (ws.set (c / 64) (mixN (ws.getD (c / 64) 0) ((2 ^ width - 1) * 2 ^ (c % 64) % 2 ^ 64) (v * 2 ^ (c % 64) % 2 ^ 64))) b =
      if c ≤ b ∧ b < c + width ∧ b / 64 = c / 64 then v.testBit (b - c) else bitAt ws b := by
    intro b
    rw [bitAt_set _ _ _ _ hq]
    by_cases hb : b / 64 = c / 64
    · rw [if_pos hb, mixN_testBit _ _ _ _ (hs.at_ _) (Nat.mod_lt _ (by decide)), Nat.testBit_mod_two_pow, tb_mul, tb_ones, Nat.testBit_mod_two_pow, tb_mul]
      have h64 : b % 64 < 64 := Nat.mod_lt _ (by decide)
      simp only [h64, decide_true, Bool.true_and]
      by_cases hcb : c ≤ b
      · have e1 : c % 64 ≤ b % 64 := by omega
        have e2 : b % 64 - c % 64 = b - c := by omega
        simp only [e1, e2, decide_true, Bool.true_and]
        by_cases hbw : b < c + width
        · have e3 : b - c < width := by omega
          simp only [e3, decide_true, Bool.not_true, Bool.and_false, Bool.false_or]
          rw [if_pos ⟨hcb, hbw, hb⟩]
        · have e3 : ¬ b - c < width := by omega
          rw [if_neg (fun h => hbw h.2.1), hvj _ (by omega)]
          simp only [e3, decide_false, Bool.not_false, Bool.and_true, Bool.or_false]
          unfold bitAt; rw [hb]
      · have e1 : ¬ c % 64 ≤ b % 64 := by omega
        rw [if_neg (fun h => hcb h.1)]
        simp only [e1, decide_false, Bool.false_and, Bool.not_false, Bool.and_true, Bool.or_false]
        unfold bitAt; rw [hb]
    · rw [if_neg hb, if_neg (fun h => hb h.2.2)]
  split
  · rename_i hlong
    have hq1 : c / 64 + 1 < ws.length := by omega
    rw [bitAt_set _ _ _ _ (by rw [List.length_set]; exact hq1)]
    by_cases hb : b / 64 = c / 64 + 1
    · rw [if_pos hb, mixN_testBit _ _ _ _ (hs.at_ _) (div_lt_64 hm64), tb_div, tb_ones, tb_div]
      have e1 : 64 - c % 64 + b % 64 = b - c := by omega
      rw [e1]
      by_cases hbw : b < c + width
      · have e3 : b - c < width := by omega
        rw [if_pos ⟨by omega, hbw⟩]
        simp [e3]
      · have e3 : ¬ b - c < width := by omega
        rw [if_neg (fun h => hbw h.2), hvj _ (by omega)]
        simp only [e3, decide_false, Bool.not_false, Bool.and_true, Bool.or_false]
        unfold bitAt; rw [hb]
    · rw [if_neg hb, hfirst]
      by_cases hin : c ≤ b ∧ b < c + width
      · rw [if_pos hin, if_pos ⟨hin.1, hin.2, by omega⟩]
      · rw [if_neg hin, if_neg (fun h => hin ⟨h.1, h.2.1⟩)]
  · rename_i hshort
    rw [hfirst]
    by_cases hin : c ≤ b ∧ b < c + width
    · rw [if_pos hin, if_pos ⟨hin.1, hin.2, by omega⟩]
    · rw [if_neg hin, if_neg (fun h => hin ⟨h.1, h.2.1⟩)]

/-- These words are the list of the n numbers x of that width. -/
structure Holds (ws : List Nat) (width n : Nat) (x : Nat → Nat) : Prop where
  w1 : 1 ≤ width
  w64 : width ≤ 64
  len : ws.length = (n * width + 63) / 64
  small : Small ws
  fits : ∀ i, i < n → x i < 2 ^ width
  bits : ∀ i j, i < n → j < width → bitAt ws (i * width + j) = (x i).testBit j
  behind : ∀ b, n * width ≤ b → bitAt ws b = false

theorem mul_room {i n width : Nat} (h : i < n) : i * width + width ≤ n * width := by
  have := Nat.mul_le_mul_right width (show i + 1 ≤ n from h)
  rw [Nat.add_mul, Nat.one_mul] at this
  exact this

theorem Holds.get {ws : List Nat} {width n : Nat} {x : Nat → Nat} (h : Holds ws width n x) {i : Nat} (hi : i < n) : getN ws width i = x i := by
  apply Nat.eq_of_testBit_eq
  intro j
  rw [getN_testBit ws h.small width i j h.w64]
  by_cases hj : j < width
  · simp only [hj, decide_true, Bool.true_and]
    exact h.bits i j hi hj
  · simp only [hj, decide_false, Bool.false_and]
    exact (Nat.testBit_lt_two_pow (Nat.lt_of_lt_of_le (h.fits i hi) (Nat.pow_le_pow_right (by omega) (by omega)))).symm

theorem other_number {i k width a : Nat} (hik : i ≠ k) (ha : a < width) (hb : k * width ≤ i * width + a) (hb' : i * width + a < k * width + width) : False := by
  rcases Nat.lt_or_gt_of_ne hik with h | h
  · have := mul_room (width := width) h; omega
  · have := mul_room (width := width) h; omega

theorem Holds.set_ {ws : List Nat} {width n : Nat} {x : Nat → Nat} (h : Holds ws width n x) {i v : Nat} (hi : i < n) (hv : v < 2 ^ width) :
    Holds (setN ws width i v) width n (fun k => if k = i then v else x k) := by
  have hroom := mul_room (width := width) hi
  have hl : i * width + width ≤ 64 * ws.length := by rw [h.len]; omega
  refine ⟨h.w1, h.w64, by rw [setN_length]; exact h.len, setN_small ws h.small width i v h.w64 hv, ?_, ?_, ?_⟩
  · intro k hk
    show (if k = i then v else x k) < 2 ^ width
    split
    · exact hv
    · exact h.fits k hk
  · intro k j hk hj
    rw [setN_bitAt ws h.small width i v _ h.w1 h.w64 hv hl]
    show _ = (if k = i then v else x k).testBit j
    by_cases e : k = i
    · subst e
      rw [if_pos ⟨by omega, by omega⟩, if_pos rfl]
      congr 1; omega
    · rw [if_neg e, if_neg]
      · exact h.bits k j hk hj
      · intro hh
        exact other_number (a := j) e hj hh.1 hh.2
  · intro b hb
    rw [setN_bitAt ws h.small width i v _ h.w1 h.w64 hv hl, if_neg (by omega)]
    exact h.behind b hb

theorem small_zeros (k : Nat) : Small (List.replicate k 0) := by
  intro x hx
  rw [List.eq_of_mem_replicate hx]; decide
theorem bitAt_zeros (k b : Nat) : bitAt (List.replicate k 0) b = false := by
  unfold bitAt
  rw [List.getD_eq_getElem?_getD, List.getElem?_replicate]
  split <;> simp
theorem holds_new (width n : Nat) (h1 : 1 ≤ width) (h64 : width ≤ 64) : Holds (List.replicate ((n * width + 63) / 64) 0) width n (fun _ => 0) :=
  ⟨h1, h64, by simp, small_zeros _, fun _ _ => Nat.two_pow_pos _, fun _ _ _ _ => by rw [bitAt_zeros]; simp, fun _ _ => bitAt_zeros _ _⟩

end Go.Proofs.YtbkdloebbbmkaaaGreat.Pl

namespace Go.Proofs.YtbkdloebbbmkaaaGreat.Pl

/-- how many of the first n are so. -/
def cnt (f : Nat → Bool) : Nat → Nat
  | 0 => 0
  | n + 1 => cnt f n + (if f n then 1 else 0)
theorem cnt_congr {f g : Nat → Bool} : ∀ {n : Nat}, (∀ j, j < n → f j = g j) → cnt f n = cnt g n
  | 0, _ => rfl
  | n + 1, h => by
    unfold cnt
    rw [cnt_congr (fun j hj => h j (by omega)), h n (by omega)]
theorem cnt_add (f : Nat → Bool) (a : Nat) : ∀ b, cnt f (a + b) = cnt f a + cnt (fun j => f (a + j)) b
  | 0 => by simp [cnt]
  | b + 1 => by
    rw [← Nat.add_assoc]
    show cnt f (a + b) + (if f (a + b) then 1 else 0) = cnt f a + (cnt (fun j => f (a + j)) b + (if f (a + b) then 1 else 0))
    rw [cnt_add f a b, Nat.add_assoc]
theorem cnt_zero {f : Nat → Bool} : ∀ {n : Nat}, (∀ j, j < n → f j = false) → cnt f n = 0
  | 0, _ => rfl
  | n + 1, h => by
    unfold cnt
    rw [cnt_zero (fun j hj => h j (by omega)), h n (by omega)]
    simp
theorem cnt_le (f : Nat → Bool) : ∀ n, cnt f n ≤ n
  | 0 => Nat.le_refl _
  | n + 1 => by
    have := cnt_le f n
    unfold cnt
    split <;> omega

/-- how many bits of a word are set. -/
def pop (v : Nat) : Nat := cnt v.testBit 64
theorem pop_le (v : Nat) : pop v ≤ 64 := cnt_le _ _
theorem pop_zero : pop 0 = 0 := cnt_zero fun j _ => by simp

theorem cnt_half (v : Nat) (f : Nat) : cnt v.testBit (f + 1) = v % 2 + cnt (v / 2).testBit f := by
  rw [Nat.add_comm f 1, cnt_add]
  have e : cnt v.testBit 1 = v % 2 := by
    simp only [cnt, Nat.testBit_zero, Nat.zero_add]
    rcases Nat.mod_two_eq_zero_or_one v with h | h <;> simp [h]
  rw [e]
  congr 1
  apply cnt_congr
  intro j _
  rw [Nat.add_comm 1 j, Nat.testBit_succ]

theorem cnt_low : ∀ (f v : Nat), 0 < v → v < 2 ^ f → cnt v.testBit f = cnt (v &&& (v - 1)).testBit f + 1
  | 0, v, h, hv => by simp at hv; omega
  | f + 1, v, h, hv => by
    rw [cnt_half, cnt_half, Nat.and_div_two]
    have hm : (v &&& (v - 1)) % 2 = 0 := by
      have e : (v &&& (v - 1)) % 2 = ((v &&& (v - 1)).testBit 0).toNat := by
        rw [Nat.testBit_zero]
        rcases Nat.mod_two_eq_zero_or_one (v &&& (v - 1)) with h' | h' <;> simp [h']
      rw [e, Nat.testBit_and, Nat.testBit_zero, Nat.testBit_zero]
      rcases Nat.mod_two_eq_zero_or_one v with h' | h'
      · simp [h']
      · have : (v - 1) % 2 = 0 := by omega
        simp [this]
    rw [hm]
    rcases Nat.mod_two_eq_zero_or_one v with h' | h'
    · have e1 : (v - 1) / 2 = v / 2 - 1 := by omega
      rw [h', e1]
      have := cnt_low f (v / 2) (by omega) (by rw [Nat.pow_succ] at hv; omega)
      omega
    · have e1 : (v - 1) / 2 = v / 2 := by omega
      rw [h', e1, Nat.and_self]
      omega
theorem pop_low {v : Nat} (h : 0 < v) (hv : v < 2 ^ 64) : pop v = pop (v &&& (v - 1)) + 1 := cnt_low 64 v h hv
theorem low_lt {v : Nat} (h : 0 < v) : v &&& (v - 1) < v := by
  have : v &&& (v - 1) ≤ v - 1 := Nat.and_le_right
  omega

/-- the sum of what is counted of the first n numbers. -/
def sumPop (x : Nat → Nat) : Nat → Nat
  | 0 => 0
  | n + 1 => sumPop x n + pop (x n)
theorem sumPop_congr {x y : Nat → Nat} : ∀ {n : Nat}, (∀ j, j < n → x j = y j) → sumPop x n = sumPop y n
  | 0, _ => rfl
  | n + 1, h => by
    unfold sumPop
    rw [sumPop_congr (fun j hj => h j (by omega)), h n (by omega)]
theorem sumPop_le (x : Nat → Nat) : ∀ n, sumPop x n ≤ 64 * n
  | 0 => Nat.le_refl _
  | n + 1 => by
    have := sumPop_le x n
    have := pop_le (x n)
    unfold sumPop
    omega
theorem sumPop_mono (x : Nat → Nat) (a : Nat) : ∀ b, sumPop x a ≤ sumPop x (a + b)
  | 0 => Nat.le_refl _
  | b + 1 => by
    have := sumPop_mono x a b
    rw [← Nat.add_assoc]
    show sumPop x a ≤ sumPop x (a + b) + pop (x (a + b))
    omega

theorem words_cnt (ws : List Nat) : ∀ n, cnt (bitAt ws) (n * 64) = sumPop (fun k => ws.getD k 0) n
  | 0 => by simp [cnt, sumPop]
  | n + 1 => by
    rw [Nat.add_mul, Nat.one_mul, cnt_add, words_cnt ws n]
    show _ = _ + pop (ws.getD n 0)
    congr 1
    apply cnt_congr
    intro j hj
    unfold bitAt
    have e1 : (n * 64 + j) / 64 = n := by omega
    have e2 : (n * 64 + j) % 64 = j := by omega
    rw [e1, e2]

theorem numbers_cnt {ws : List Nat} {width n : Nat} {x : Nat → Nat} (h : Holds ws width n x) : ∀ i, i ≤ n → cnt (bitAt ws) (i * width) = sumPop x i
  | 0, _ => by simp [cnt, sumPop]
  | i + 1, hi => by
    rw [Nat.add_mul, Nat.one_mul, cnt_add, numbers_cnt h i (by omega)]
    show _ = _ + pop (x i)
    congr 1
    rw [cnt_congr (fun j hj => h.bits i j (by omega) hj)]
    unfold pop
    have e : width + (64 - width) = 64 := by have := h.w64; omega
    rw [← e, cnt_add]
    have z : cnt (fun j => (x i).testBit (width + j)) (64 - width) = 0 := cnt_zero fun j _ =>
      Nat.testBit_lt_two_pow (Nat.lt_of_lt_of_le (h.fits i (by omega)) (Nat.pow_le_pow_right (by omega) (by omega)))
    omega

/-- the words' bits are those of the numbers. -/
theorem Holds.sums {ws : List Nat} {width n : Nat} {x : Nat → Nat} (h : Holds ws width n x) : sumPop (fun k => ws.getD k 0) ws.length = sumPop x n := by
  rw [← words_cnt, ← numbers_cnt h n (Nat.le_refl _)]
  have hl : n * width ≤ ws.length * 64 := by rw [h.len]; omega
  have e : ws.length * 64 = n * width + (ws.length * 64 - n * width) := by omega
  rw [e, cnt_add]
  have z : cnt (fun j => bitAt ws (n * width + j)) (ws.length * 64 - n * width) = 0 := cnt_zero fun j _ => h.behind _ (by omega)
  omega

end Go.Proofs.YtbkdloebbbmkaaaGreat.Pl

namespace Go.Proofs.YtbkdloebbbmkaaaGreat.Pl

theorem cnt_succ (f : Nat → Bool) (n : Nat) : cnt f (n + 1) = cnt f n + (if f n then 1 else 0) := rfl
theorem cnt_mono (f : Nat → Bool) {a b : Nat} (h : a ≤ b) : cnt f a ≤ cnt f b := by
  obtain ⟨c, rfl⟩ := Nat.le.dest h
  rw [cnt_add]
  omega
theorem cnt_not (f : Nat → Bool) : ∀ n, cnt f n + cnt (fun j => !f j) n = n
  | 0 => rfl
  | n + 1 => by
    have := cnt_not f n
    rw [cnt_succ, cnt_succ]
    cases f n <;> simp <;> omega
theorem cnt_at_lt {f : Nat → Bool} {a b : Nat} (h : a < b) (ha : f a = true) : cnt f a < cnt f b := by
  have h1 := cnt_mono f (show a + 1 ≤ b from h)
  rw [cnt_succ, ha] at h1
  simp at h1
  omega

/-- the place below n of the bit of number k; -1: there is none. -/
def sel (f : Nat → Bool) : Nat → Int → Int
  | 0, _ => -1
  | n + 1, k => if f n = true ∧ ((cnt f n : Nat) : Int) = k then (n : Int) else sel f n k
theorem sel_out {f : Nat → Bool} : ∀ {n : Nat} {k : Int}, k < 0 ∨ ((cnt f n : Nat) : Int) ≤ k → sel f n k = -1
  | 0, _, _ => rfl
  | n + 1, k, h => by
    have hs := cnt_succ f n
    unfold sel
    rw [if_neg, sel_out]
    · rcases h with h | h
      · exact .inl h
      · right
        have := cnt_mono f (Nat.le_succ n)
        omega
    · rintro ⟨h1, h2⟩
      rw [h1] at hs
      simp at hs
      omega
theorem sel_in {f : Nat → Bool} : ∀ {n m : Nat}, m < n → f m = true → sel f n (cnt f m) = m
  | 0, _, h, _ => by omega
  | n + 1, m, h, hf => by
    unfold sel
    by_cases e : m = n
    · subst e
      rw [if_pos ⟨hf, rfl⟩]
    · have h1 := cnt_at_lt (f := f) (show m < n by omega) hf
      rw [if_neg (by rintro ⟨_, h2⟩; omega)]
      exact sel_in (by omega) hf
/-- what a search by counts finds. -/
theorem sel_found {f : Nat → Bool} {n m k : Nat} (hm : m ≤ n) (hk : k < cnt f n) (h1 : ∀ t, t < m → cnt f (t + 1) ≤ k) (h2 : ∀ t, m ≤ t → t < n → k < cnt f (t + 1)) :
    m < n ∧ f m = true ∧ cnt f m = k := by
  have hlt : m < n := by
    apply Nat.lt_of_not_le
    intro hge
    obtain rfl : m = n := by omega
    cases m with
    | zero => simp [cnt] at hk
    | succ m => have := h1 m (by omega); omega
  have ha := h2 m (Nat.le_refl _) hlt
  have hb : cnt f m ≤ k := by
    cases m with
    | zero => simp [cnt]
    | succ m => exact h1 m (by omega)
  rw [cnt_succ] at ha
  cases hf : f m with
  | false => rw [hf] at ha; simp at ha; omega
  | true => rw [hf] at ha; simp at ha; exact ⟨hlt, rfl, by omega⟩
theorem sel_found' {f : Nat → Bool} {n m k : Nat} (hm : m ≤ n) (hk : k < cnt f n) (h1 : ∀ t, t < m → cnt f (t + 1) ≤ k) (h2 : ∀ t, m ≤ t → t < n → k < cnt f (t + 1)) : sel f n k = m := by
  obtain ⟨a, b, c⟩ := sel_found hm hk h1 h2
  rw [← c]
  exact sel_in a b
theorem sel_congr {f g : Nat → Bool} : ∀ {n : Nat} {k : Int}, (∀ j, j < n → f j = g j) → sel f n k = sel g n k
  | 0, _, _ => rfl
  | n + 1, k, h => by
    unfold sel
    rw [h n (by omega), cnt_congr (g := g) (fun j hj => h j (by omega)), sel_congr (g := g) (fun j hj => h j (by omega))]

/-- by words. -/
theorem cnt_word (ws : List Nat) (q : Nat) : cnt (bitAt ws) (64 * (q + 1)) = cnt (bitAt ws) (64 * q) + pop (ws.getD q 0) := by
  have e : 64 * (q + 1) = 64 * q + 64 := by omega
  rw [e, cnt_add]
  congr 1
  apply cnt_congr
  intro j hj
  unfold bitAt
  have e1 : (64 * q + j) / 64 = q := by omega
  have e2 : (64 * q + j) % 64 = j := by omega
  rw [e1, e2]
theorem pop_mask (x r : Nat) (hr : r ≤ 64) : pop (x &&& (2 ^ r - 1)) = cnt x.testBit r := by
  unfold pop
  have e : 64 = r + (64 - r) := by omega
  rw [e, cnt_add]
  have h1 : cnt (x &&& (2 ^ r - 1)).testBit r = cnt x.testBit r := cnt_congr fun j hj => by
    rw [Nat.testBit_and, tb_ones]
    simp [hj]
  have h2 : cnt (fun j => (x &&& (2 ^ r - 1)).testBit (r + j)) (64 - r) = 0 := cnt_zero fun j _ => by
    rw [Nat.testBit_and, tb_ones]
    have : ¬ r + j < r := by omega
    simp [this]
  rw [h1, h2]
  rfl
theorem cnt_part (ws : List Nat) (q r : Nat) (hr : r < 64) : cnt (bitAt ws) (64 * q + r) = cnt (bitAt ws) (64 * q) + pop (ws.getD q 0 &&& (2 ^ r - 1)) := by
  rw [cnt_add, pop_mask _ r (by omega)]
  congr 1
  apply cnt_congr
  intro j hj
  unfold bitAt
  have e1 : (64 * q + j) / 64 = q := by omega
  have e2 : (64 * q + j) % 64 = j := by omega
  rw [e1, e2]

/-- the place from 0 to n that i counts as. -/
def clamp (n : Nat) (i : Int) : Nat := (max 0 (min i (n : Int))).toNat
theorem clamp_le (n : Nat) (i : Int) : clamp n i ≤ n := by unfold clamp; omega
theorem clamp_int (n : Nat) (i : Int) : max 0 (min i (n : Int)) = ((clamp n i : Nat) : Int) := by unfold clamp; omega
theorem clamp_nat {n i : Nat} (h : i ≤ n) : clamp n i = i := by unfold clamp; omega
end Go.Proofs.YtbkdloebbbmkaaaGreat.Pl

namespace Go.Proofs.YtbkdloebbbmkaaaGreat.Pl

theorem cnt_full {g : Nat → Bool} : ∀ {m : Nat}, (∀ i, i < m → g i = true) → cnt g m = m
  | 0, _ => rfl
  | m + 1, h => by
    rw [cnt_succ, cnt_full fun i hi => h i (by omega), h m (by omega)]
    rfl
/-- g holds just of the first k. -/
theorem cnt_pre {g : Nat → Bool} {k m : Nat} (hk : k ≤ m) (h1 : ∀ i, i < k → g i = true) (h2 : ∀ i, k ≤ i → i < m → g i = false) : cnt g m = k := by
  obtain ⟨c, rfl⟩ := Nat.le.dest hk
  rw [cnt_add, cnt_full h1, cnt_zero fun j hj => h2 (k + j) (by omega) (by omega)]
  omega
/-- what holds of a beginning alone is counted by where it ends. -/
theorem cnt_cut {g : Nat → Bool} : ∀ {m : Nat}, (∀ i j, i < j → j < m → g j = true → g i = true) → (∀ i, i < cnt g m → g i = true) ∧ (∀ i, cnt g m ≤ i → i < m → g i = false)
  | 0, _ => ⟨fun i hi => absurd hi (Nat.not_lt_zero _), fun i _ hi => absurd hi (Nat.not_lt_zero _)⟩
  | m + 1, h => by
    obtain ⟨a, b⟩ := cnt_cut (g := g) (m := m) fun i j hij hj => h i j hij (by omega)
    cases hg : g m with
    | true =>
      have hall : ∀ i, i < m → g i = true := fun i hi => h i m hi (by omega) hg
      rw [cnt_succ, cnt_full hall, hg]
      refine ⟨fun i hi => ?_, fun i h1 h2 => absurd h1 (by simp; omega)⟩
      by_cases e : i = m
      · rw [e]; exact hg
      · exact hall i (by simp at hi; omega)
    | false =>
      rw [cnt_succ, hg]
      refine ⟨fun i hi => a i (by simpa using hi), fun i h1 h2 => ?_⟩
      by_cases e : i = m
      · rw [e]; exact hg
      · exact b i (by simpa using h1) (by omega)
theorem cnt_all {g : Nat → Bool} : ∀ {m : Nat}, cnt g m = m → ∀ i, i < m → g i = true
  | 0, _, i, hi => absurd hi (Nat.not_lt_zero _)
  | m + 1, h, i, hi => by
    have hl := cnt_le g m
    rw [cnt_succ] at h
    have hm : g m = true := by
      cases hg : g m with
      | true => rfl
      | false => rw [hg] at h; simp at h; omega
    rw [hm] at h
    simp at h
    by_cases e : i = m
    · rw [e]; exact hm
    · exact cnt_all h i (by omega)

/-- m places that rise, below n. -/
structure Rise (n m : Nat) (l : Nat → Nat) : Prop where
  below : ∀ i, i < m → l i < n
  up : ∀ i, i + 1 < m → l i < l (i + 1)
theorem Rise.lt {n m : Nat} {l : Nat → Nat} (h : Rise n m l) {i : Nat} : ∀ {j : Nat}, i < j → j < m → l i < l j
  | 0, hij, _ => absurd hij (Nat.not_lt_zero _)
  | j + 1, hij, hj => by
    have hu := h.up j hj
    by_cases e : i = j
    · rw [e]; exact hu
    · exact Nat.lt_trans (h.lt (show i < j by omega) (by omega)) hu
theorem Rise.le {n m : Nat} {l : Nat → Nat} (h : Rise n m l) {i j : Nat} (hij : i ≤ j) (hj : j < m) : l i ≤ l j := by
  by_cases e : i = j
  · rw [e]; exact Nat.le_refl _
  · exact Nat.le_of_lt (h.lt (by omega) hj)
theorem Rise.ge {n m : Nat} {l : Nat → Nat} (h : Rise n m l) : ∀ {i : Nat}, i < m → i ≤ l i
  | 0, _ => Nat.zero_le _
  | i + 1, hi => by
    have h1 := h.ge (show i < m by omega)
    have h2 := h.up i hi
    omega
theorem Rise.few {n m : Nat} {l : Nat → Nat} (h : Rise n m l) : m ≤ n := by
  cases m with
  | zero => exact Nat.zero_le _
  | succ m =>
    have h1 := h.ge (show m < m + 1 by omega)
    have h2 := h.below m (by omega)
    omega
theorem Rise.same {n m : Nat} {l l' : Nat → Nat} (h : Rise n m l) (e : ∀ i, i < m → l i = l' i) : Rise n m l' :=
  ⟨fun i hi => by rw [← e i hi]; exact h.below i hi, fun i hi => by rw [← e i (by omega), ← e (i + 1) hi]; exact h.up i hi⟩

/-- the list of bits of the high parts. -/
def hi (l : Nat → Nat) (P m : Nat) : Nat → Bool := fun b => (List.range m).any fun i => l i / P + i == b
theorem hi_iff {l : Nat → Nat} {P m b : Nat} : hi l P m b = true ↔ ∃ i, i < m ∧ l i / P + i = b := by
  unfold hi
  rw [List.any_eq_true]
  constructor
  · rintro ⟨i, hi, h⟩
    exact ⟨i, List.mem_range.1 hi, by simpa using h⟩
  · rintro ⟨i, hi, h⟩
    exact ⟨i, List.mem_range.2 hi, by simpa using h⟩
theorem hi_no {l : Nat → Nat} {P m b : Nat} (h : ∀ i, i < m → l i / P + i ≠ b) : hi l P m b = false := by
  cases e : hi l P m b with
  | false => rfl
  | true =>
    obtain ⟨i, h1, h2⟩ := hi_iff.1 e
    exact absurd h2 (h i h1)
theorem hi_zero (l : Nat → Nat) (P b : Nat) : hi l P 0 b = false := hi_no fun _ hi => absurd hi (Nat.not_lt_zero _)
theorem hi_succ (l : Nat → Nat) (P m b : Nat) : hi l P (m + 1) b = (hi l P m b || (l m / P + m == b)) := by
  unfold hi
  rw [List.range_succ, List.any_append]
  simp

theorem cnt_single {g : Nat → Bool} {m i : Nat} (hi : i < m) (h1 : g i = true) (h2 : ∀ j, j < m → j ≠ i → g j = false) : cnt g m = 1 := by
  obtain ⟨c, hc⟩ := Nat.le.dest (show i + 1 ≤ m from hi)
  rw [← hc, cnt_add, cnt_succ, cnt_zero fun j hj => h2 j (by omega) (by omega), h1, cnt_zero fun j hj => h2 (i + 1 + j) (by omega) (by omega)]
  rfl
theorem cnt_plus {a b c : Nat → Bool} : ∀ {m : Nat}, (∀ i, i < m → c i = (a i || b i) ∧ (a i && b i) = false) → cnt c m = cnt a m + cnt b m
  | 0, _ => rfl
  | m + 1, h => by
    obtain ⟨h1, h2⟩ := h m (by omega)
    rw [cnt_succ, cnt_succ, cnt_succ, cnt_plus fun i hi => h i (by omega), h1]
    revert h2
    cases a m <;> cases b m <;> simp <;> omega

section
variable {n m P : Nat} {l : Nat → Nat}
theorem Rise.pos (h : Rise n m l) {i j : Nat} (hij : i < j) (hj : j < m) : l i / P + i < l j / P + j := by
  have := Nat.div_le_div_right (c := P) (Nat.le_of_lt (h.lt hij hj))
  omega
theorem Rise.pos_inj (h : Rise n m l) {i j : Nat} (hi : i < m) (hj : j < m) (e : l i / P + i = l j / P + j) : i = j := by
  rcases Nat.lt_trichotomy i j with h1 | h1 | h1
  · have := h.pos (P := P) h1 hj; omega
  · exact h1
  · have := h.pos (P := P) h1 hi; omega
/-- the ones ahead of a bit. -/
theorem Rise.cnt_hi (h : Rise n m l) : ∀ b, cnt (Pl.hi l P m) b = cnt (fun i => decide (l i / P + i < b)) m
  | 0 => (cnt_zero fun j _ => by simp).symm
  | b + 1 => by
    rw [cnt_succ, h.cnt_hi b]
    have hsum : cnt (fun i => decide (l i / P + i < b + 1)) m = cnt (fun i => decide (l i / P + i < b)) m + cnt (fun i => l i / P + i == b) m := by
      apply cnt_plus
      intro i _
      constructor
      · rw [Bool.eq_iff_iff]; simp; omega
      · by_cases e : l i / P + i = b <;> simp [e]
    rw [hsum]
    congr 1
    cases e : Pl.hi l P m b with
    | false =>
      rw [cnt_zero]
      · rfl
      · intro j hj
        cases e2 : (l j / P + j == b) with
        | false => rfl
        | true =>
          have : Pl.hi l P m b = true := hi_iff.2 ⟨j, hj, by simpa using e2⟩
          rw [e] at this
          cases this
    | true =>
      obtain ⟨i, h1, h2⟩ := hi_iff.1 e
      rw [cnt_single h1 (by simpa using h2)]
      · rfl
      · intro j hj hne
        cases e2 : (l j / P + j == b) with
        | false => rfl
        | true => exact absurd (h.pos_inj (P := P) hj h1 (by rw [h2]; simpa using e2)) hne
theorem Rise.cnt_pos (h : Rise n m l) {i : Nat} (hi : i < m) : cnt (Pl.hi l P m) (l i / P + i) = i := by
  rw [h.cnt_hi]
  refine cnt_pre (Nat.le_of_lt hi) (fun j hj => ?_) (fun j h1 h2 => ?_)
  · simpa using h.pos (P := P) hj hi
  · simp only [decide_eq_false_iff_not, Nat.not_lt]
    by_cases e : i = j
    · rw [e]; exact Nat.le_refl _
    · exact Nat.le_of_lt (h.pos (P := P) (by omega) h2)
theorem Rise.hi_pos {i : Nat} (hi : i < m) : Pl.hi l P m (l i / P + i) = true := hi_iff.2 ⟨i, hi, rfl⟩

/-- how many bits there are. -/
def bitsOf (n m P : Nat) : Nat := m + (n - 1) / P + 1
theorem Rise.pos_lt (h : Rise n m l) {i : Nat} (hi : i < m) : l i / P + i < bitsOf n m P := by
  unfold bitsOf
  have h1 := h.below i hi
  have h2 := Nat.div_le_div_right (c := P) (show l i ≤ n - 1 by omega)
  omega
theorem Rise.ones (h : Rise n m l) : cnt (Pl.hi l P m) (bitsOf n m P) = m := by
  rw [h.cnt_hi]
  exact cnt_full fun i hi => by simpa using h.pos_lt (P := P) hi
theorem Rise.sel_pos (h : Rise n m l) {i : Nat} (hi : i < m) : sel (Pl.hi l P m) (bitsOf n m P) (i : Int) = ((l i / P + i : Nat) : Int) := by
  have e := sel_in (f := Pl.hi l P m) (h.pos_lt (P := P) hi) (Rise.hi_pos hi)
  rw [h.cnt_pos hi] at e
  exact e

/-- how many places have a high part below h. -/
def under (l : Nat → Nat) (P m h : Nat) : Nat := cnt (fun i => decide (l i / P < h)) m
theorem Rise.under_cut (h : Rise n m l) (k : Nat) : (∀ i, i < under l P m k → l i / P < k) ∧ (∀ i, under l P m k ≤ i → i < m → k ≤ l i / P) := by
  obtain ⟨a, b⟩ := cnt_cut (g := fun i => decide (l i / P < k)) (m := m) fun i j hij hj hg => by
    have := Nat.div_le_div_right (c := P) (Nat.le_of_lt (h.lt hij hj))
    simp only [decide_eq_true_eq] at hg ⊢
    omega
  exact ⟨fun i hi => by simpa using a i hi, fun i h1 h2 => by simpa using b i h1 h2⟩
theorem under_le (l : Nat → Nat) (P m k : Nat) : under l P m k ≤ m := cnt_le _ _
theorem under_zero (l : Nat → Nat) (P m : Nat) : under l P m 0 = 0 := cnt_zero fun _ _ => by simp
theorem under_mono (l : Nat → Nat) (P m : Nat) {a b : Nat} (h : a ≤ b) : under l P m a ≤ under l P m b := by
  unfold under
  induction m with
  | zero => exact Nat.le_refl _
  | succ m ih =>
    rw [cnt_succ, cnt_succ]
    by_cases e : l m / P < a
    · have e2 : l m / P < b := by omega
      simp [e, e2]; exact ih
    · simp only [e, decide_false]
      exact Nat.le_trans ih (Nat.le_add_right _ _)
/-- the nought of number k stands behind the places of a high part of k or less. -/
theorem Rise.sel_nought (h : Rise n m l) {k : Nat} (hk : k ≤ (n - 1) / P) : sel (fun j => !(Pl.hi l P m) j) (bitsOf n m P) (k : Int) = ((k + under l P m (k + 1) : Nat) : Int) := by
  obtain ⟨a, b⟩ := h.under_cut (P := P) (k + 1)
  have hle := under_le l P m (k + 1)
  obtain ⟨c, hc⟩ : ∃ c, under l P m (k + 1) = c := ⟨_, rfl⟩
  rw [hc] at a b hle ⊢
  have hno : Pl.hi l P m (k + c) = false := hi_no fun i hi e => by
    by_cases hic : i < c
    · have := a i hic; omega
    · have := b i (by omega) hi; omega
  have hcnt : cnt (Pl.hi l P m) (k + c) = c := by
    rw [h.cnt_hi]
    refine cnt_pre hle (fun i hi => ?_) (fun i h1 h2 => ?_)
    · have := a i hi
      simp only [decide_eq_true_eq]; omega
    · have := b i h1 h2
      simp only [decide_eq_false_iff_not]; omega
  have hnot := cnt_not (Pl.hi l P m) (k + c)
  have hlt : k + c < bitsOf n m P := by unfold bitsOf; omega
  have e := sel_in (f := fun j => !(Pl.hi l P m) j) hlt (by simp [hno])
  have e2 : cnt (fun j => !(Pl.hi l P m) j) (k + c) = k := by omega
  rw [e2] at e
  exact e
theorem Rise.noughts (h : Rise n m l) : cnt (fun j => !(Pl.hi l P m) j) (bitsOf n m P) = (n - 1) / P + 1 := by
  have h1 := cnt_not (Pl.hi l P m) (bitsOf n m P)
  have h2 := h.ones (P := P)
  have h3 : bitsOf n m P = m + (n - 1) / P + 1 := rfl
  omega
theorem same_quot {a b P : Nat} (h : a / P = b / P) : a < b ↔ a % P < b % P := by
  have h1 := Nat.div_add_mod a P
  have h2 := Nat.div_add_mod b P
  rw [h] at h1
  generalize P * (b / P) = z at h1 h2
  omega
theorem less_quot {a b P : Nat} (h : a / P < b / P) : a < b := by
  apply Nat.lt_of_not_le
  intro hge
  have := Nat.div_le_div_right (c := P) hge
  omega
/-- how many places are below x, by their parts. -/
theorem Rise.rank_parts (h : Rise n m l) {x r : Nat} (hr : r ≤ under l P m (x / P + 1) - under l P m (x / P)) (h1 : ∀ t, t < r → l (under l P m (x / P) + t) % P < x % P)
    (h2 : ∀ t, r ≤ t → t < under l P m (x / P + 1) - under l P m (x / P) → x % P ≤ l (under l P m (x / P) + t) % P) : cnt (fun i => decide (l i < x)) m = under l P m (x / P) + r := by
  obtain ⟨a, b⟩ := h.under_cut (P := P) (x / P)
  obtain ⟨a1, b1⟩ := h.under_cut (P := P) (x / P + 1)
  have hm := under_mono l P m (show x / P ≤ x / P + 1 by omega)
  have hle := under_le l P m (x / P + 1)
  obtain ⟨c, hc⟩ : ∃ c, under l P m (x / P) = c := ⟨_, rfl⟩
  obtain ⟨d, hd⟩ : ∃ d, under l P m (x / P + 1) = d := ⟨_, rfl⟩
  rw [hc, hd] at hm hr h2
  rw [hc] at a b h1 ⊢
  rw [hd] at a1 b1 hle
  refine cnt_pre (by omega) (fun i hi => ?_) (fun i hi1 hi2 => ?_)
  · simp only [decide_eq_true_eq]
    by_cases hic : i < c
    · exact less_quot (a i hic)
    · have e1 := b i (by omega) (by omega)
      have e2 := a1 i (by omega)
      have e3 := h1 (i - c) (by omega)
      rw [show c + (i - c) = i by omega] at e3
      exact (same_quot (by omega)).2 e3
  · simp only [decide_eq_false_iff_not]
    intro hlt
    by_cases hid : i < d
    · have e1 := b i (by omega) (by omega)
      have e2 := a1 i (by omega)
      have e3 := h2 (i - c) (by omega) (by omega)
      rw [show c + (i - c) = i by omega] at e3
      have := (same_quot (show l i / P = x / P by omega)).1 hlt
      omega
    · have e1 := b1 i (by omega) hi2
      have := Nat.div_le_div_right (c := P) (Nat.le_of_lt hlt)
      omega
end

/-- how many bits a number has. -/
def blen : Nat → Nat
  | 0 => 0
  | n + 1 => blen ((n + 1) / 2) + 1
  decreasing_by omega
theorem blen_pos {n : Nat} (h : 0 < n) : blen n = blen (n / 2) + 1 := by
  cases n with
  | zero => omega
  | succ n => rw [blen]
theorem blen_zero : blen 0 = 0 := by rw [blen]
theorem blen_log (n : Nat) : 0 < n → blen n = Nat.log2 n + 1 := by
  induction n using Nat.strongRecOn with
  | ind n ih =>
    intro h
    rw [blen_pos h, Nat.log2_def]
    by_cases h2 : n ≥ 2
    · rw [if_pos h2, ih (n / 2) (by omega) (by omega)]
    · rw [if_neg h2]
      have : n / 2 = 0 := by omega
      rw [this, blen_zero]
theorem blen_le : ∀ {k n : Nat}, n < 2 ^ k → blen n ≤ k
  | 0, n, h => by
    have : n = 0 := by simpa using h
    rw [this, blen_zero]; exact Nat.le_refl _
  | k + 1, n, h => by
    by_cases h0 : 0 < n
    · rw [blen_pos h0]
      have := blen_le (k := k) (n := n / 2) (by rw [Nat.pow_succ] at h; omega)
      omega
    · have : n = 0 := by omega
      rw [this, blen_zero]; omega
/-- the low width. -/
def lw (n m : Nat) : Nat := blen (n / m) - 1
theorem lw_le {n m : Nat} (h : n ≤ 4194304) : lw n m ≤ 22 := by
  unfold lw
  have h1 : n / m ≤ n := Nat.div_le_self _ _
  have := blen_le (k := 23) (n := n / m) (by omega)
  omega

theorem sel_some' {f : Nat → Bool} : ∀ {n k : Nat}, k < Pl.cnt f n → ∃ p, p < n ∧ f p = true ∧ Pl.cnt f p = k
  | 0, k, h => by simp [Pl.cnt] at h
  | n + 1, k, h => by
    by_cases hk : k < Pl.cnt f n
    · obtain ⟨p, hp, h1, h2⟩ := sel_some' hk
      exact ⟨p, by omega, h1, h2⟩
    · rw [Pl.cnt_succ] at h
      cases hf : f n with
      | false => rw [hf] at h; simp at h; omega
      | true => rw [hf] at h; simp at h; exact ⟨n, by omega, hf, by omega⟩
/-- the numbers that bits and low parts say: each its place. -/
def place (f : Nat → Bool) (c P : Nat) (x : Nat → Nat) (j : Nat) : Nat := ((sel f c (j : Int)).toNat - j) * P + x j
/-- they are low parts, and rise below the bound. -/
structure Good (n m P : Nat) (y x : Nat → Nat) : Prop where
  low : ∀ j, j < m → x j < P
  rise : Rise n m y
theorem place_hi {f : Nat → Bool} {c P m : Nat} {x : Nat → Nat} (hm : cnt f c = m) (hx : ∀ j, j < m → x j < P) {b : Nat} (hb : b < c) : Pl.hi (place f c P x) P m b = f b := by
  have hdiv : ∀ j, j < m → place f c P x j / P + j = (sel f c (j : Int)).toNat - j + j := fun j hj => by
    unfold place
    have hp : 0 < P := Nat.lt_of_le_of_lt (Nat.zero_le _) (hx j hj)
    rw [Nat.mul_comm, Nat.mul_add_div hp, Nat.div_eq_of_lt (hx j hj)]
    rfl
  cases hf : f b with
  | true =>
    have hj : cnt f b < m := by rw [← hm]; exact cnt_at_lt hb hf
    refine hi_iff.2 ⟨cnt f b, hj, ?_⟩
    have := cnt_le f b
    rw [hdiv _ hj, sel_in hb hf, Int.toNat_natCast]
    omega
  | false =>
    refine hi_no fun i hi e => ?_
    rw [hdiv i hi] at e
    obtain ⟨p, hp1, hp2, hp3⟩ : ∃ p, p < c ∧ f p = true ∧ cnt f p = i := sel_some' (by omega)
    have := cnt_le f p
    rw [← hp3, sel_in hp1 hp2, Int.toNat_natCast] at e
    have : p = b := by omega
    subst this
    rw [hf] at hp2
    cases hp2
theorem place_at {f : Nat → Bool} {c P : Nat} {x : Nat → Nat} {b : Nat} (hb : b < c) (hf : f b = true) : place f c P x (cnt f b) = (b - cnt f b) * P + x (cnt f b) := by
  unfold place
  rw [sel_in hb hf, Int.toNat_natCast]
theorem place_mod {f : Nat → Bool} {c P : Nat} {x : Nat → Nat} {j : Nat} (hx : x j < P) : place f c P x j % P = x j := by
  unfold place
  rw [Nat.mul_comm, Nat.mul_add_mod, Nat.mod_eq_of_lt hx]
/-- of rising places it is they themselves. -/
theorem Rise.place {n m P : Nat} {l x : Nat → Nat} (h : Rise n m l) (hx : ∀ j, j < m → x j = l j % P) {f : Nat → Bool} (hf : ∀ b, b < bitsOf n m P → f b = Pl.hi l P m b) {j : Nat} (hj : j < m) : Pl.place f (bitsOf n m P) P x j = l j := by
  unfold Pl.place
  rw [sel_congr hf, h.sel_pos hj, hx j hj, Int.toNat_natCast, Nat.add_sub_cancel, Nat.mul_comm]
  exact Nat.div_add_mod _ _
end Go.Proofs.YtbkdloebbbmkaaaGreat.Pl

namespace Go.Proofs.YtbkdloebbbmkaaaGreat
open Go.RowKit

/-- block g holds just these cells, of this element type, and none is frozen. -/
def Lies (w : World) (g : Nat) (t : TypeId) (cs : List Value) : Prop := w.heap[g]? = some (.cells cs.toArray t (0, 0))

section
variable {w w' : World} {g : Nat} {t : TypeId} {cs : List Value}

theorem Lies.lt (h : Lies w g t cs) : g < w.heap.size := by
  apply Nat.lt_of_not_le
  intro hge
  unfold Lies at h
  rw [Array.getElem?_eq_none hge] at h
  cases h
theorem Lies.cell (h : Lies w g t cs) (i : Nat) : w.cell? ⟨g, i, none⟩ = cs[i]? := by
  rw [cell_of_row w g i cs.toArray t (0, 0) h]; simp
theorem Lies.free (h : Lies w g t cs) (i : Nat) : w.frozen? ⟨g, i, none⟩ = false := by
  unfold Lies at h
  simp [World.frozen?, h]
theorem Lies.same (h : Lies w g t cs) (e : w'.heap[g]? = w.heap[g]?) : Lies w' g t cs := e.trans h
theorem Lies.below {B : Nat} (h : Lies w g t cs) (hb : Below B w w') (hg : g < B) : Lies w' g t cs := h.same (hb.block g hg)
theorem Lies.grown {row : Option Nat} (h : Lies w g t cs) (hb : w.grownBy w' row) (hg : some g ≠ row) : Lies w' g t cs := h.same (hb.block g h.lt hg)
theorem Lies.alloc (h : Lies w g t cs) (o : Obj) : Lies (w.alloc o) g t cs := h.same (Below.heap_alloc w o g h.lt)
theorem Lies.drew (h : Lies w g t cs) : Lies w.drew g t cs := h
theorem Lies.drewN (h : Lies w g t cs) (n : Nat) : Lies (w.drewN n) g t cs := h
theorem Lies.put (h : Lies w g t cs) (i : Nat) (u : Value) : Lies (w.setCell ⟨g, i, none⟩ u) g t (cs.set i u) := by
  unfold Lies at h ⊢
  simp [World.setCell, Array.getElem?_modify, h]
theorem Lies.far (h : Lies w g t cs) {p : Addr} (hp : g ≠ p.block) (u : Value) : Lies (w.setCell p u) g t cs := h.same (Below.heap_setCell w p u g hp)
theorem Lies.unlike {g' : Nat} {t' : TypeId} {cs' : List Value} (h : Lies w g t cs) (h' : Lies w g' t' cs') (hne : t ≠ t') : g ≠ g' := by
  rintro rfl
  unfold Lies at h h'
  rw [h] at h'
  simp at h'
  exact hne h'.2
end

/-- words as cells. -/
def wcells (ws : List Nat) : List Value := ws.map fun (x : Nat) => Value.int .u64 (x : Int)
theorem wcells_at (ws : List Nat) (k : Nat) (h : k < ws.length) : (wcells ws)[k]? = some (.int .u64 ((ws.getD k 0 : Nat) : Int)) := by
  unfold wcells
  rw [List.getElem?_map, List.getElem?_eq_getElem h, List.getD_eq_getElem?_getD, List.getElem?_eq_getElem h]
  rfl
theorem wcells_set (ws : List Nat) (k x : Nat) : wcells (ws.set k x) = (wcells ws).set k (.int .u64 (x : Int)) := by
  unfold wcells; rw [List.map_set]
theorem wcells_length (ws : List Nat) : (wcells ws).length = ws.length := by unfold wcells; simp

/-- a packed list as it lies: its struct in block g, its words in block gs. -/
structure Pk (w : World) (g gs : Nat) (width n : Nat) (ws : List Nat) : Prop where
  head : Lies w g 94 [.int .i64 (width : Int), .int .i64 (n : Int), .slice (some ⟨gs, 0, none⟩) ws.length ws.length]
  body : Lies w gs 70 (wcells ws)

section
variable {w w' : World} {g gs width n : Nat} {ws : List Nat}
theorem Pk.ne_ (h : Pk w g gs width n ws) : g ≠ gs := h.head.unlike h.body (by decide)
theorem Pk.keep (h : Pk w g gs width n ws) (h1 : w'.heap[g]? = w.heap[g]?) (h2 : w'.heap[gs]? = w.heap[gs]?) : Pk w' g gs width n ws := ⟨h.head.same h1, h.body.same h2⟩
theorem Pk.below {B : Nat} (h : Pk w g gs width n ws) (hb : Below B w w') (hg : g < B) (hgs : gs < B) : Pk w' g gs width n ws := h.keep (hb.block g hg) (hb.block gs hgs)
theorem Pk.grown {row : Option Nat} (h : Pk w g gs width n ws) (hb : w.grownBy w' row) (hg : some g ≠ row) (hgs : some gs ≠ row) : Pk w' g gs width n ws := ⟨h.head.grown hb hg, h.body.grown hb hgs⟩
theorem Pk.alloc (h : Pk w g gs width n ws) (o : Obj) : Pk (w.alloc o) g gs width n ws := ⟨h.head.alloc o, h.body.alloc o⟩
theorem Pk.drew (h : Pk w g gs width n ws) : Pk w.drew g gs width n ws := ⟨h.head, h.body⟩
theorem Pk.drewN (h : Pk w g gs width n ws) (k : Nat) : Pk (w.drewN k) g gs width n ws := ⟨h.head.drewN k, h.body.drewN k⟩
theorem Pk.put (h : Pk w g gs width n ws) (q x : Nat) : Pk (w.setCell ⟨gs, q, none⟩ (.int .u64 (x : Int))) g gs width n (ws.set q x) := by
  refine ⟨?_, ?_⟩
  · rw [List.length_set]; exact h.head.far h.ne_ _
  · rw [wcells_set]; exact h.body.put q _
theorem Pk.c0 (h : Pk w g gs width n ws) : w.cell? ⟨g, 0, none⟩ = some (.int .i64 (width : Int)) := h.head.cell 0
theorem Pk.c1 (h : Pk w g gs width n ws) : w.cell? ⟨g, 1, none⟩ = some (.int .i64 (n : Int)) := h.head.cell 1
theorem Pk.c2 (h : Pk w g gs width n ws) : w.cell? ⟨g, 2, none⟩ = some (.slice (some ⟨gs, 0, none⟩) ws.length ws.length) := h.head.cell 2
theorem Pk.word (h : Pk w g gs width n ws) (k : Nat) (hk : k < ws.length) : w.cell? ⟨gs, k, none⟩ = some (.int .u64 ((ws.getD k 0 : Nat) : Int)) := by
  rw [h.body.cell k]; exact wcells_at ws k hk
end

/-- frames: only the row, and what is new, has turned. -/
theorem grownBy_trans {a b c : World} {row : Option Nat} (h : a.grownBy b row) (k : b.grownBy c row) : a.grownBy c row :=
  ⟨k.os.trans h.os, k.tape.trans h.tape, k.output.trans h.output, Nat.le_trans h.size k.size, fun i hi hne => (k.block i (Nat.lt_of_lt_of_le hi h.size) hne).trans (h.block i hi hne)⟩
theorem grownBy_of_below {a w : World} (h : Below a.heap.size a w) (row : Option Nat) : a.grownBy w row := ⟨h.os, h.tape, h.output, h.size, fun i hi _ => h.block i hi⟩
theorem below_of_grownBy {B : Nat} {a w : World} {g : Nat} (h : a.grownBy w (some g)) (hB : B ≤ g) (hs : B ≤ a.heap.size) : Below B a w :=
  ⟨h.os, h.tape, h.output, h.size, fun i hi => h.block i (by omega) (fun e => by injection e with e; omega)⟩
theorem grownBy_drewN {a w : World} {row : Option Nat} (h : a.grownBy w row) (n : Nat) : a.grownBy (w.drewN n) row := ⟨h.os, h.tape, h.output, h.size, h.block⟩
theorem grownBy_drew {a w : World} {row : Option Nat} (h : a.grownBy w row) : a.grownBy w.drew row := ⟨h.os, h.tape, h.output, h.size, h.block⟩
theorem grownBy_put {a w : World} {g : Nat} (h : a.grownBy w (some g)) (q : Nat) (u : Value) : a.grownBy (w.setCell ⟨g, q, none⟩ u) (some g) :=
  ⟨h.os, h.tape, h.output, by simpa [World.setCell] using h.size, fun i hi hne => (Below.heap_setCell w ⟨g, q, none⟩ u i (fun e => hne (by rw [e]))).trans (h.block i hi hne)⟩
theorem below_drewN' {B : Nat} {a w : World} (h : Below B a w) (n : Nat) : Below B a (w.drewN n) := ⟨h.os, h.tape, h.output, h.size, h.block⟩

end Go.Proofs.YtbkdloebbbmkaaaGreat

namespace Go.Proofs.YtbkdloebbbmkaaaGreat
open Go.RowKit

theorem ret_i64 {a b : Int} (h : a = b) : Ending.returned (.int .i64 a) = .returned (.int .i64 b) := by rw [h]
theorem ret_u64 {a b : Int} (h : a = b) : Ending.returned (.int .u64 a) = .returned (.int .u64 b) := by rw [h]

theorem ret2_i64 {a b c d : Int} (h : a = b) (k : c = d) : Ending.returned (.tuple #[.int .i64 a, .int .i64 c]) = .returned (.tuple #[.int .i64 b, .int .i64 d]) := by rw [h, k]

/-- u64 arithmetic over natural numbers. -/
theorem wrap_u (x : Nat) : IntKind.u64.wrap (x : Int) = ((x % 2 ^ 64 : Nat) : Int) := by
  rw [IntKind.wrap_u64]; omega
theorem shl_u (x s : Nat) : IntKind.u64.wrap ((x : Int) * 2 ^ s) = ((x * 2 ^ s % 2 ^ 64 : Nat) : Int) := by
  rw [← wrap_u]
  simp [Int.natCast_mul, Int.natCast_pow]
theorem shr_u (x s : Nat) : (x : Int) / 2 ^ s = ((x / 2 ^ s : Nat) : Int) := by
  simp [Int.natCast_ediv, Int.natCast_pow]
theorem or_u {x y : Nat} (hx : x < 2 ^ 64) (hy : y < 2 ^ 64) : bits .or .u64 (x : Int) (y : Int) = ((x ||| y : Nat) : Int) := u64_or_nat x y (by omega) (by omega)
theorem and_u {x y : Nat} (hx : x < 2 ^ 64) (hy : y < 2 ^ 64) : bits .and .u64 (x : Int) (y : Int) = ((x &&& y : Nat) : Int) := u64_and_nat x y (by omega) (by omega)
theorem andNot_u {x y : Nat} (hx : x < 2 ^ 64) (hy : y < 2 ^ 64) : bits .andNot .u64 (x : Int) (y : Int) = ((x &&& (2 ^ 64 - 1 - y) : Nat) : Int) := u64_andNot_nat x y (by omega) (by omega)

theorem ones_num (k : Nat) (hk : k ≤ 64) : IntKind.u64.wrap (IntKind.u64.wrap (2 ^ k) - 1) = ((2 ^ k - 1 : Nat) : Int) := by
  rw [IntKind.wrap_u64, IntKind.wrap_u64]
  have h1 := Nat.two_pow_pos k
  have h2 : 2 ^ k ≤ 2 ^ 64 := Nat.pow_le_pow_right (by omega) hk
  have e : (2 : Int) ^ k = ((2 ^ k : Nat) : Int) := by simp [Int.natCast_pow]
  rw [e]
  omega

set_option maxHeartbeats 400000 in
theorem ones_any (k : Nat) (hk : k ≤ 64) (w : World) :
    Calls Tryz.prog 59 #[.int .i64 k] w fun e w' => e = .returned (.int .u64 ((2 ^ k - 1 : Nat) : Int)) ∧ w = w' := by
  have HN := Lib.hid (ones_num k hk)
  go_enter Tryz.func59, Tryz.ntmps59
  go_wp2
  go_ret
  exact ⟨ret_u64 HN.out, rfl⟩

set_option maxHeartbeats 400000 in
theorem wordsOf_any (k : Nat) (hk : k ≤ 268435456) (w : World) :
    Calls Tryz.prog 106 #[.int .i64 k] w fun e w' => e = .returned (.int .i64 ((k + 63) / 64 : Nat)) ∧ w = w' := by
  go_enter Tryz.func106, Tryz.ntmps106
  go_wp2
  go_ret
  exact ⟨ret_i64 (by omega), rfl⟩

/-- width and n may be. -/
def rightB (width n : Int) : Bool := decide (1 ≤ width ∧ width ≤ 64 ∧ 0 ≤ n ∧ n ≤ 4194304)

set_option maxHeartbeats 400000 in
theorem mayBe_any (width n : Int) (w : World) :
    Calls Tryz.prog 105 #[.int .i64 width, .int .i64 n] w fun e w' => e = .returned (.bool (rightB width n)) ∧ w = w' := by
  unfold rightB
  by_cases h1 : 1 ≤ width <;> by_cases h2 : width ≤ 64 <;> by_cases h3 : 0 ≤ n <;> by_cases h4 : n ≤ 4194304
  all_goals
    go_enter Tryz.func105, Tryz.ntmps105
    go_wp2
    go_ret
    simp [h1, h2, h3, h4]

section
variable {w : World} {g gs width n : Nat} {ws : List Nat}

set_option maxHeartbeats 400000 in
theorem has_yes (h : Pk w g gs width n ws) (i : Nat) (hi : i < n) :
    Calls Tryz.prog 57 #[.pointer (some ⟨g, 0, none⟩), .int .i64 i] w fun e w' => e = .returned (.bool true) ∧ w = w' := by
  have h1 := h.c1
  clear h
  go_enter Tryz.func57, Tryz.ntmps57
  go_wp2
  go_ret
  simp

set_option maxHeartbeats 400000 in
theorem has_no (h : Pk w g gs width n ws) (i : Int) (hi : i < 0 ∨ (n : Int) ≤ i) :
    Calls Tryz.prog 57 #[.pointer (some ⟨g, 0, none⟩), .int .i64 i] w fun e w' => e = .returned (.bool false) ∧ w = w' := by
  have h1 := h.c1
  clear h
  by_cases h0 : 0 ≤ i
  all_goals
    go_enter Tryz.func57, Tryz.ntmps57
    go_wp2
    go_ret
    simp
    try omega

set_option maxHeartbeats 400000 in
theorem has_nil (i : Int) (w : World) :
    Calls Tryz.prog 57 #[.pointer none, .int .i64 i] w fun e w' => e = .returned (.bool false) ∧ w = w' := by
  go_enter Tryz.func57, Tryz.ntmps57
  go_wp2
  go_ret
  simp

set_option maxHeartbeats 400000 in
theorem place_any (h : Pk w g gs width n ws) (i q r : Nat) (hw : width ≤ 64) (hi : i < 4194304) (hq : i * width / 64 = q) (hr : i * width % 64 = r) :
    Calls Tryz.prog 58 #[.pointer (some ⟨g, 0, none⟩), .int .i64 i] w fun e w' => e = .returned (.tuple #[.int .i64 q, .int .i64 r]) ∧ w = w' := by
  have h1 := h.c0
  have hb : i * width ≤ 4194304 * 64 := Nat.mul_le_mul (by omega) hw
  have hb1 : 0 ≤ (i : Int) * (width : Int) := by rw [← Int.natCast_mul]; omega
  have hb2 : (i : Int) * (width : Int) ≤ 268435456 := by rw [← Int.natCast_mul]; omega
  have hq' : (i : Int) * (width : Int) / 64 = q := by rw [← hq, ← Int.natCast_mul]; exact (Int.natCast_ediv _ _).symm
  have hr' : (i : Int) * (width : Int) % 64 = r := by rw [← hr, ← Int.natCast_mul]; exact (Int.natCast_emod _ _).symm
  have HQ := Lib.hid hq'
  have HR := Lib.hid hr'
  clear h hq hr hq' hr'
  go_enter Tryz.func58, Tryz.ntmps58
  go_wp2
  go_ret2
  exact ⟨ret2_i64 HQ.out HR.out, rfl⟩

/-- the bounds that every place of a list keeps. -/
theorem q_small {i width n q L : Nat} (hw : width ≤ 64) (hi : i < n) (hn : n ≤ 4194304) (hq : i * width / 64 = q) (hL : n * width ≤ 64 * L) (h1 : 1 ≤ width) : q < 4194304 ∧ q < L := by
  have := Pl.mul_room (width := width) hi
  have hb : n * width ≤ 4194304 * 64 := Nat.mul_le_mul hn hw
  omega
theorem q_next {i width n q r L : Nat} (hi : i < n) (hq : i * width / 64 = q) (hr : i * width % 64 = r) (hL : n * width ≤ 64 * L) (hlong : 64 < r + width) : q + 1 < L := by
  have := Pl.mul_room (width := width) hi
  omega

theorem get_end {ws : List Nat} {width i q r x0 x1 : Nat} (hs : Pl.Small ws) (hw : width ≤ 64) (hq : i * width / 64 = q) (hr : i * width % 64 = r) (h0 : ws.getD q 0 = x0) (h1 : ws.getD (q + 1) 0 = x1) (hlong : 64 < r + width) :
    bits .and .u64 (bits .or .u64 ((x0 : Int) / 2 ^ r) (IntKind.u64.wrap ((x1 : Int) * 2 ^ (64 - r)))) ((2 ^ width - 1 : Nat) : Int) = ((Pl.getN ws width i : Nat) : Int) := by
  have b0 : x0 < 2 ^ 64 := by rw [← h0]; exact hs.at_ _
  have bw : 2 ^ width - 1 < 2 ^ 64 := by have := Pl.two_pow_le_64 hw; have := Nat.two_pow_pos width; omega
  have b1 : x1 * 2 ^ (64 - r) % 2 ^ 64 < 2 ^ 64 := Nat.mod_lt _ (by decide)
  rw [shr_u, shl_u, or_u (Pl.div_lt_64 b0) b1, and_u (Nat.or_lt_two_pow (Pl.div_lt_64 b0) b1) bw]
  unfold Pl.getN
  simp only [hq, hr, h0, h1, hlong, if_true]
theorem get_end' {ws : List Nat} {width i q r x0 : Nat} (hs : Pl.Small ws) (hw : width ≤ 64) (hq : i * width / 64 = q) (hr : i * width % 64 = r) (h0 : ws.getD q 0 = x0) (hshort : ¬ 64 < r + width) :
    bits .and .u64 ((x0 : Int) / 2 ^ r) ((2 ^ width - 1 : Nat) : Int) = ((Pl.getN ws width i : Nat) : Int) := by
  have b0 : x0 < 2 ^ 64 := by rw [← h0]; exact hs.at_ _
  have bw : 2 ^ width - 1 < 2 ^ 64 := by have := Pl.two_pow_le_64 hw; have := Nat.two_pow_pos width; omega
  rw [shr_u, and_u (Pl.div_lt_64 b0) bw]
  unfold Pl.getN
  simp only [hq, hr, h0, hshort, if_false]

set_option maxHeartbeats 400000 in
theorem get_any (h : Pk w g gs width n ws) (hs : Pl.Small ws) (h1 : 1 ≤ width) (hw : width ≤ 64) (hn : n ≤ 4194304) (hL : n * width ≤ 64 * ws.length) (i : Nat) (hi : i < n) :
    Calls Tryz.prog 40 #[.pointer (some ⟨g, 0, none⟩), .int .i64 i] w fun e w' => e = .returned (.int .u64 ((Pl.getN ws width i : Nat) : Int)) ∧ w = w' := by
  obtain ⟨q, hq⟩ : ∃ q, i * width / 64 = q := ⟨_, rfl⟩
  obtain ⟨r, hr⟩ : ∃ r, i * width % 64 = r := ⟨_, rfl⟩
  have hr64 : r < 64 := by rw [← hr]; exact Nat.mod_lt _ (by decide)
  obtain ⟨hq1, hq2⟩ := q_small hw hi hn hq hL h1
  have h0 := h.c0
  have h2 := h.c2
  have hw0 := h.word q hq2
  generalize hx0 : ws.getD q 0 = x0 at hw0
  have HX := Lib.hid hx0
  have HQ := Lib.hid hq
  have HR := Lib.hid hr
  have HP := Lib.hid (place_any h i q r hw (by omega) hq hr)
  by_cases hlong : 64 < r + width
  · have hq3 := q_next hi hq hr hL hlong
    have hw1 := h.word (q + 1) hq3
    generalize hx1 : ws.getD (q + 1) 0 = x1 at hw1
    have HX1 := Lib.hid hx1
    clear hx0 hx1 hq hr
    go_enter Tryz.func40, Tryz.ntmps40
    go_wp2_with (first
      | (go_at_call 57; refine (has_yes h i hi).mono ?_; rintro e w' ⟨rfl, rfl⟩)
      | (go_at_call 58; refine HP.out.mono ?_; rintro e w' ⟨rfl, rfl⟩)
      | (go_at_call 59; refine (ones_any width hw _).mono ?_; rintro e w' ⟨rfl, rfl⟩))
    go_ret
    exact ⟨ret_u64 (get_end hs hw HQ.out HR.out HX.out HX1.out hlong), rfl⟩
  · clear hx0 hq hr
    go_enter Tryz.func40, Tryz.ntmps40
    go_wp2_with (first
      | (go_at_call 57; refine (has_yes h i hi).mono ?_; rintro e w' ⟨rfl, rfl⟩)
      | (go_at_call 58; refine HP.out.mono ?_; rintro e w' ⟨rfl, rfl⟩)
      | (go_at_call 59; refine (ones_any width hw _).mono ?_; rintro e w' ⟨rfl, rfl⟩))
    go_ret
    exact ⟨ret_u64 (get_end' hs hw HQ.out HR.out HX.out hlong), rfl⟩

set_option maxHeartbeats 400000 in
theorem get_out (h : Pk w g gs width n ws) (i : Int) (hi : i < 0 ∨ (n : Int) ≤ i) :
    Calls Tryz.prog 40 #[.pointer (some ⟨g, 0, none⟩), .int .i64 i] w fun e w' => e = .returned (.int .u64 0) ∧ w = w' := by
  go_enter Tryz.func40, Tryz.ntmps40
  go_wp2_with (go_at_call 57; refine (has_no h i hi).mono ?_; rintro e w' ⟨rfl, rfl⟩)
  go_ret
  exact ⟨rfl, rfl⟩
set_option maxHeartbeats 400000 in
theorem get_nil (i : Int) (w : World) :
    Calls Tryz.prog 40 #[.pointer none, .int .i64 i] w fun e w' => e = .returned (.int .u64 0) ∧ w = w' := by
  go_enter Tryz.func40, Tryz.ntmps40
  go_wp2_with (go_at_call 57; refine (has_nil i _).mono ?_; rintro e w' ⟨rfl, rfl⟩)
  go_ret
  exact ⟨rfl, rfl⟩
end
end Go.Proofs.YtbkdloebbbmkaaaGreat

namespace Go.Proofs.YtbkdloebbbmkaaaGreat
open Go.RowKit

theorem info_u64 : (Tryz.prog.info? 70).map (fun i => (i.zero, i.size, i.bytes)) = some (some (.int .u64 0), 1, 8) := by kernel_rfl
theorem size_u64 : (Tryz.prog.info? 70).map (·.size) = some 1 := by kernel_rfl

theorem zeros_cells (L : Nat) : madeCells (Value.int .u64 0).cells (L * 1) = (wcells (List.replicate L 0)).toArray := by
  apply Array.ext'
  simp [madeCells, wcells, Value.cells, Array.toList_range]
  apply List.ext_getElem
  · simp
  · intro i h1 h2
    simp [Nat.mod_one]
theorem make_words (L : Nat) (hL : L ≤ 4194304) (W : World) :
    (Instr.makeSlice 90 (.int .i64 (L : Int)) (.int .i64 (L : Int))).run Tryz.prog W = .ok (.slice (some ⟨W.heap.size, 0, none⟩) L L) (W.alloc (.cells (wcells (List.replicate L 0)).toArray 70)) := by
  obtain ⟨i, hi, hz, hs, hb⟩ := info_parts info_u64
  have h := run_make (P := Tryz.prog) W 90 70 i _ Tryz.underlying90 hi hz .i64 .i64 (L : Int) (L : Int) (by omega) (by omega) (by rw [hb]; omega) (by omega)
  rw [h, hs]
  simp only [Int.toNat_natCast]
  rw [zeros_cells]

theorem wcells_one (ws : List Nat) : ∀ v ∈ wcells ws, v.oneCell' = true := by
  intro v hv
  unfold wcells at hv
  obtain ⟨x, _, rfl⟩ := List.mem_map.1 hv
  rfl
theorem size_alloc (w : World) (o : Obj) : (w.alloc o).heap.size = w.heap.size + 1 := by simp
theorem lies_new (w : World) (t : TypeId) (cs : List Value) : Lies (w.alloc (.cells cs.toArray t)) w.heap.size t cs := heap_alloc_new w _

/-- a slice, from its block's head on, that reads as these words. -/
def Src (w : World) (b : Nat) (ws : List Nat) : Prop := b < w.heap.size ∧ ∀ k, k < ws.length → w.cell? ⟨b, k, none⟩ = some (.int .u64 ((ws.getD k 0 : Nat) : Int))
theorem Src.of_lies {w : World} {b : Nat} {ws : List Nat} (h : Lies w b 70 (wcells ws)) : Src w b ws := ⟨h.lt, fun k hk => by rw [h.cell k]; exact wcells_at ws k hk⟩
theorem Src.keep {w w' : World} {b : Nat} {ws : List Nat} (h : Src w b ws) (hb : Below w.heap.size w w') : Src w' b ws :=
  ⟨Nat.lt_of_lt_of_le h.1 hb.size, fun k hk => (hb.cell (p := ⟨b, k, none⟩) h.1).trans (h.2 k hk)⟩
theorem Src.cells {w : World} {b : Nat} {ws : List Nat} (h : Src w b ws) (j : Nat) (v : Value) (hj : (wcells ws)[j]? = some v) : w.cell? ((⟨b, 0, none⟩ : Addr).add j) = some v := by
  have hl : j < ws.length := by
    rw [← wcells_length]
    exact (List.getElem?_eq_some_iff.1 hj).1
  have e : (⟨b, 0, none⟩ : Addr).add j = ⟨b, j, none⟩ := by unfold Addr.add; split <;> simp_all
  rw [e, h.2 j hl, ← hj]
  exact (wcells_at ws j hl).symm

/-- what copyOf leaves: a new row of just these words. -/
def CopyPost (w : World) (ws : List Nat) (e : Ending) (w' : World) : Prop :=
  ∃ gs : Nat, e = .returned (.slice (some ⟨gs, 0, none⟩) ws.length ws.length) ∧ w.heap.size ≤ gs ∧ Lies w' gs 70 (wcells ws) ∧ Below w.heap.size w w'

set_option maxHeartbeats 400000 in
theorem copyOf_any (ws : List Nat) (b c : Nat) (w : World) (hL : ws.length ≤ 4194304) (h : Src w b ws) :
    Calls Tryz.prog 107 #[.slice (some ⟨b, 0, none⟩) ws.length c] w (CopyPost w ws) := by
  obtain ⟨L, hLL⟩ : ∃ L, ws.length = L := ⟨_, rfl⟩
  have HL := Lib.hid hLL
  rw [hLL] at hL ⊢
  clear hLL
  have hmk := make_words L hL
  obtain ⟨w2, hcp, hl2, hb2⟩ : ∃ w2, (Builtin.copy_ #[90, 90] 3 #[.slice (some ⟨w.heap.size, 0, none⟩) L L, .slice (some ⟨b, 0, none⟩) L c]).run Tryz.prog (w.alloc (.cells (wcells (List.replicate L 0)).toArray 70)) = .ok (.int .i64 (L : Int)) w2 ∧ Hid (Lies w2 w.heap.size 70 (wcells ws)) ∧ Below w.heap.size w w2 := by
    have hsrc := h.keep (w' := w.alloc (.cells (wcells (List.replicate L 0)).toArray 70)) ((Below.refl _ _).alloc (Nat.le_refl _) _)
    have hrun := run_copy_row (P := Tryz.prog) _ 90 90 3 70 w.heap.size 0 L L ⟨b, 0, none⟩ L c (wcells (List.replicate L 0)).toArray 70 (wcells ws) Tryz.underlying90 size_u64
      (lies_new w 70 _) (by rw [wcells_length, HL.out]; exact (Nat.min_self L).symm) hsrc.cells (by simp [wcells_length, HL.out]) (wcells_one ws)
    rw [wcells_length, HL.out] at hrun
    refine ⟨_, hrun, ?_, ?_⟩
    · have e := setRow_heap (w.alloc (.cells (wcells (List.replicate L 0)).toArray 70)) w.heap.size (wcells (List.replicate L 0)).toArray (wcells ws).toArray 70 (0, 0) (lies_new w 70 _)
      have e1 : (List.take 0 (wcells (List.replicate L 0)).toArray.toList ++ wcells ws ++ List.drop (0 + L) (wcells (List.replicate L 0)).toArray.toList) = wcells ws := by
        simp [wcells_length]
      show Lies _ _ _ _
      unfold Lies
      rw [e1]
      exact e
    · exact below_setRow ((Below.refl _ _).alloc (Nat.le_refl _) _) (Nat.le_refl _) _
  go_enter Tryz.func107, Tryz.ntmps107
  go_wp2
  go_ret
  exact ⟨w.heap.size, by rw [HL.out]; rfl, Nat.le_refl _, hl2.out, hb2⟩

/-- what New and From hand back: a new packed list that shares nothing. -/
def NewPost (w : World) (width n : Nat) (ws : List Nat) (e : Ending) (w' : World) : Prop :=
  ∃ g gs : Nat, e = .returned (.tuple #[.pointer (some ⟨g, 0, none⟩), .int .i64 0]) ∧ w.heap.size ≤ g ∧ w.heap.size ≤ gs ∧ Pk w' g gs width n ws ∧ Below w.heap.size w w'

set_option maxHeartbeats 400000 in
theorem new_bad (width n : Int) (hb : rightB width n = false) (w : World) :
    Calls Tryz.prog 76 #[.int .i64 width, .int .i64 n] w fun e w' => e = .returned (.tuple #[.pointer none, .int .i64 2]) ∧ w = w' := by
  go_enter Tryz.func76, Tryz.ntmps76
  go_wp2_with (go_at_call 105; refine (mayBe_any width n _).mono ?_; rintro e w' ⟨rfl, rfl⟩)
  go_ret2
  exact ⟨rfl, rfl⟩

set_option maxHeartbeats 400000 in
theorem new_any (width n : Nat) (h1 : 1 ≤ width) (h64 : width ≤ 64) (hn : n ≤ 4194304) (w : World) :
    Calls Tryz.prog 76 #[.int .i64 width, .int .i64 n] w (NewPost w width n (List.replicate ((n * width + 63) / 64) 0)) := by
  have hb : rightB width n = true := by unfold rightB; simp; omega
  have hb0 : width * n ≤ 64 * 4194304 := Nat.mul_le_mul h64 hn
  have hb1 : 0 ≤ (width : Int) * (n : Int) := by rw [← Int.natCast_mul]; omega
  have hb2 : (width : Int) * (n : Int) ≤ 268435456 := by rw [← Int.natCast_mul]; omega
  obtain ⟨L, hL⟩ : ∃ L, (width * n + 63) / 64 = L := ⟨_, rfl⟩
  have HC : ∀ W, Hid (Calls Tryz.prog 106 #[.int .i64 ((width : Int) * (n : Int))] W fun e w' => e = .returned (.int .i64 (L : Int)) ∧ W = w') := fun W => by
    rw [← hL, ← Int.natCast_mul]; exact Lib.hid (wordsOf_any _ (by omega) W)
  have HL := Lib.hid (show (n * width + 63) / 64 = L by rw [Nat.mul_comm]; exact hL)
  have hL0 : L ≤ 4194304 := by omega
  clear hL
  have hmk := make_words L hL0
  go_enter Tryz.func76, Tryz.ntmps76
  go_wp2_with (first
    | (go_at_call 105; refine (mayBe_any width n _).mono ?_; rintro e w' ⟨rfl, rfl⟩)
    | (go_at_call 106; refine (HC _).out.mono ?_; rintro e w' ⟨rfl, rfl⟩))
  go_ret2
  refine ⟨w.heap.size + 1, w.heap.size, rfl, by omega, Nat.le_refl _, ?_, ?_⟩
  · rw [HL.out]
    refine ⟨?_, (lies_new w 70 _).alloc _⟩
    have e := lies_new (w.alloc (.cells (wcells (List.replicate L 0)).toArray 70)) 94 [.int .i64 (width : Int), .int .i64 (n : Int), .slice (some ⟨w.heap.size, 0, none⟩) L L]
    rw [size_alloc] at e
    rw [List.length_replicate]
    exact e
  · exact ((Below.refl _ _).alloc (Nat.le_refl _) _).alloc (by rw [size_alloc]; omega) _
section
variable {w : World} {g gs width n : Nat} {ws : List Nat}

theorem len_any (h : Pk w g gs width n ws) :
    Calls Tryz.prog 79 #[.pointer (some ⟨g, 0, none⟩)] w fun e w' => e = .returned (.int .i64 (n : Int)) ∧ w = w' := by
  have h1 := h.c1
  go_enter Tryz.func79, Tryz.ntmps79
  go_wp2
  go_ret
  exact ⟨rfl, rfl⟩
theorem len_nil (w : World) : Calls Tryz.prog 79 #[.pointer none] w fun e w' => e = .returned (.int .i64 0) ∧ w = w' := by
  go_enter Tryz.func79, Tryz.ntmps79
  go_wp2
  go_ret
  exact ⟨rfl, rfl⟩
theorem width_any (h : Pk w g gs width n ws) :
    Calls Tryz.prog 78 #[.pointer (some ⟨g, 0, none⟩)] w fun e w' => e = .returned (.int .i64 (width : Int)) ∧ w = w' := by
  have h1 := h.c0
  go_enter Tryz.func78, Tryz.ntmps78
  go_wp2
  go_ret
  exact ⟨rfl, rfl⟩
theorem width_nil (w : World) : Calls Tryz.prog 78 #[.pointer none] w fun e w' => e = .returned (.int .i64 0) ∧ w = w' := by
  go_enter Tryz.func78, Tryz.ntmps78
  go_wp2
  go_ret
  exact ⟨rfl, rfl⟩
set_option maxHeartbeats 400000 in
theorem words_any (h : Pk w g gs width n ws) (hL : ws.length ≤ 4194304) :
    Calls Tryz.prog 80 #[.pointer (some ⟨g, 0, none⟩)] w (CopyPost w ws) := by
  have h1 := h.c2
  have HC := Lib.hid (copyOf_any ws gs ws.length w hL (Src.of_lies h.body))
  go_enter Tryz.func80, Tryz.ntmps80
  go_wp2_with (go_at_call 107; refine HC.out.mono ?_; rintro e w' ⟨gn, rfl, hg1, hl1, hb1⟩)
  go_ret
  exact ⟨gn, rfl, hg1, hl1, hb1⟩
theorem words_nil (w : World) : Calls Tryz.prog 80 #[.pointer none] w fun e w' => e = .returned (.slice none 0 0) ∧ w = w' := by
  go_enter Tryz.func80, Tryz.ntmps80
  go_wp2
  go_ret
  exact ⟨rfl, rfl⟩
end
end Go.Proofs.YtbkdloebbbmkaaaGreat

namespace Go.Proofs.YtbkdloebbbmkaaaGreat
open Go.ChangeShapes Go.WideShapes Go.ChangeAt Go.RowKit

/-- a slice of ints, as it lies. -/
def Its (w : World) (B : Nat) (A : Option Addr) (n : Nat) (V : Nat → Int) : Prop :=
  ∀ k, k < n → ∃ ad : Addr, A = some ad ∧ ad.block < B ∧ w.cell? (ad.add k) = some (.int .i64 (V k)) ∧ -9223372036854775808 ≤ V k ∧ V k ≤ 9223372036854775807
theorem Its.below {w w' : World} {B : Nat} {A : Option Addr} {n : Nat} {V : Nat → Int} (h : Its w B A n V) (hb : Below B w w') : Its w' B A n V := fun k hk => by
  obtain ⟨ad, e, h1, h2, h3⟩ := h k hk
  exact ⟨ad, e, h1, (hb.cell (by rw [add_block]; exact h1)).trans h2, h3⟩
theorem Its.mono_ {w : World} {B B' : Nat} {A : Option Addr} {n : Nat} {V : Nat → Int} (h : Its w B A n V) (hB : B ≤ B') : Its w B' A n V := fun k hk => by
  obtain ⟨ad, e, h1, h2, h3⟩ := h k hk
  exact ⟨ad, e, Nat.lt_of_lt_of_le h1 hB, h2, h3⟩

theorem cells_i64 : Tryz.prog.cellsOf 3 = 1 := by kernel_rfl

section
variable {H : Type} {enc : TypeId × Value → H}
set_option maxRecDepth 100000 in
theorem open_list {W : World} {v : Value} {d : DataW H} {p : List MemPlace} {b : Nat} {r : Reach} (hv : Value.okWide Tryz.prog W r b 22 v) (h : DataW.Trod enc Tryz.prog W 0 (fun _ => true) true 22 v d p) :
    ∃ (A : Option Addr) (n c : Nat) (V : Nat → Int), v = .slice A n c ∧ n ≤ maxLen ∧ (A = none → n = 0 ∧ c = 0) ∧ Its W W.heap.size A n V := by
  obtain ⟨a0, len, cap, rfl⟩ := okWide_slice Tryz.underlying22 hv
  obtain ⟨fuel, hf⟩ := h
  rcases open_ints Tryz.underlying22 Tryz.underlying3 cells_i64 hf with ⟨hcs, _⟩ | ⟨a, n, c, zs, hcs, _, hl, hm, hz, _, hcell, hwz⟩
  · simp [Value.cells] at hcs
    obtain ⟨rfl, rfl, rfl⟩ := hcs
    exact ⟨none, 0, 0, fun _ => 0, rfl, Nat.zero_le _, fun _ => ⟨rfl, rfl⟩, fun k hk => absurd hk (by omega)⟩
  · simp [Value.cells] at hcs
    obtain ⟨rfl, rfl, rfl⟩ := hcs
    have hnm : len ≤ zs.length := by rw [hz]; split <;> omega
    refine ⟨some a, len, cap, fun k => zs.getD k 0, rfl, Nat.le_trans hl hm, fun e => (by cases e), fun k hk => ?_⟩
    have e0 := hcell k (by omega)
    have hlt := cell_in e0
    rw [add_block] at hlt
    have hmem : zs.getD k 0 ∈ zs := by
      rw [List.getD_eq_getElem?_getD, List.getElem?_eq_getElem (by omega)]
      exact List.getElem_mem _
    exact ⟨a, rfl, hlt, e0, i64_in (hwz _ hmem)⟩
end

/-- the number ahead of number k. -/
def lastI (V : Nat → Int) : Nat → Int
  | 0 => -1
  | k + 1 => V k
/-- the first m rise, from 0 on, below n. -/
def riseB (n : Int) (V : Nat → Int) : Nat → Bool
  | 0 => true
  | k + 1 => riseB n V k && (decide (lastI V k < V k) && decide (V k < n))
theorem riseB_mono {n : Int} {V : Nat → Int} {k : Nat} : ∀ {m : Nat}, k ≤ m → riseB n V k = false → riseB n V m = false
  | 0, h, e => by
    have : k = 0 := by omega
    rw [← this]; exact e
  | m + 1, h, e => by
    by_cases hk : k = m + 1
    · rw [← hk]; exact e
    · unfold riseB
      rw [riseB_mono (show k ≤ m by omega) e, Bool.false_and]
theorem riseB_facts {n : Int} {V : Nat → Int} : ∀ {m : Nat}, riseB n V m = true → (∀ i, i < m → 0 ≤ V i ∧ V i < n) ∧ (∀ i, i + 1 < m → V i < V (i + 1))
  | 0, _ => ⟨fun i hi => absurd hi (Nat.not_lt_zero _), fun i hi => absurd hi (by omega)⟩
  | m + 1, h => by
    unfold riseB at h
    simp only [Bool.and_eq_true, decide_eq_true_eq] at h
    obtain ⟨h0, h1, h2⟩ := h
    obtain ⟨a, b⟩ := riseB_facts h0
    have hm : 0 ≤ V m := by
      cases m with
      | zero => simp only [lastI] at h1; omega
      | succ m => have := a m (by omega); simp only [lastI] at h1; omega
    refine ⟨fun i hi => ?_, fun i hi => ?_⟩
    · by_cases e : i = m
      · rw [e]; exact ⟨hm, h2⟩
      · exact a i (by omega)
    · by_cases e : i + 1 = m
      · subst e; exact h1
      · exact b i (by omega)
/-- as natural numbers. -/
theorem rise_of {n m : Nat} {V : Nat → Int} (h : riseB (n : Int) V m = true) : Pl.Rise n m (fun i => (V i).toNat) ∧ ∀ i, i < m → V i = (((V i).toNat : Nat) : Int) := by
  obtain ⟨a, b⟩ := riseB_facts h
  refine ⟨⟨fun i hi => ?_, fun i hi => ?_⟩, fun i hi => ?_⟩
  · have := a i hi
    show (V i).toNat < n
    omega
  · have := b i hi
    have := a i (by omega)
    have := a (i + 1) hi
    show (V i).toNat < (V (i + 1)).toNat
    omega
  · have := a i hi
    omega
theorem riseB_of {n m : Nat} {l : Nat → Nat} (h : Pl.Rise n m l) {V : Nat → Int} (e : ∀ i, i < m → V i = ((l i : Nat) : Int)) : riseB (n : Int) V m = true := by
  induction m with
  | zero => rfl
  | succ m ih =>
    unfold riseB
    rw [ih ⟨fun i hi => h.below i (by omega), fun i hi => h.up i (by omega)⟩ (fun i hi => e i (by omega)), Bool.true_and]
    simp only [Bool.and_eq_true, decide_eq_true_eq]
    have h1 := h.below m (by omega)
    have h2 := e m (by omega)
    refine ⟨?_, by omega⟩
    cases m with
    | zero => simp only [lastI]; omega
    | succ m =>
      have := h.up m (by omega)
      have := e m (by omega)
      simp only [lastI]; omega

end Go.Proofs.YtbkdloebbbmkaaaGreat

namespace Go.Proofs.YtbkdloebbbmkaaaGreat

/-- suffix a is less than suffix b. -/
def SLess (V : Nat → Int) (n a b : Nat) : Prop := ∃ k, (∀ i, i < k → V (a + i) = V (b + i)) ∧ b + k < n ∧ a + k ≤ n ∧ (a + k = n ∨ V (a + k) < V (b + k))
theorem SLess.lt {V : Nat → Int} {n a b : Nat} (h : SLess V n a b) : b < n ∧ a ≤ n := by
  obtain ⟨k, _, h2, h3, _⟩ := h
  omega
theorem sless_step {V : Nat → Int} {n a b : Nat} (ha : a < n) (_hb : b < n) (he : V a = V b) : SLess V n a b ↔ SLess V n (a + 1) (b + 1) := by
  constructor
  · rintro ⟨k, h1, h2, h3, h4⟩
    cases k with
    | zero =>
      rcases h4 with h4 | h4
      · omega
      · exact absurd h4 (by show ¬ V a < V b; omega)
    | succ k =>
      refine ⟨k, fun i hi => ?_, by omega, by omega, ?_⟩
      · have := h1 (i + 1) (by omega)
        rwa [show a + 1 + i = a + (i + 1) by omega, show b + 1 + i = b + (i + 1) by omega]
      · rwa [show a + 1 + k = a + (k + 1) by omega, show b + 1 + k = b + (k + 1) by omega]
  · rintro ⟨k, h1, h2, h3, h4⟩
    refine ⟨k + 1, fun i hi => ?_, by omega, by omega, ?_⟩
    · cases i with
      | zero => exact he
      | succ i =>
        have := h1 i (by omega)
        rwa [show a + 1 + i = a + (i + 1) by omega, show b + 1 + i = b + (i + 1) by omega] at this
    · rwa [show a + 1 + k = a + (k + 1) by omega, show b + 1 + k = b + (k + 1) by omega] at h4
theorem sless_now {V : Nat → Int} {n a b : Nat} (ha : a < n) (hb : b < n) (he : V a ≠ V b) : SLess V n a b ↔ V a < V b := by
  constructor
  · rintro ⟨k, h1, h2, h3, h4⟩
    cases k with
    | zero =>
      rcases h4 with h4 | h4
      · omega
      · exact h4
    | succ k => exact absurd (h1 0 (by omega)) he
  · intro h
    exact ⟨0, fun i hi => absurd hi (Nat.not_lt_zero i), hb, by omega, .inr h⟩
theorem sless_end {V : Nat → Int} {n a b : Nat} (ha : a ≤ n) (h : ¬ (a < n ∧ b < n)) : SLess V n a b ↔ a = n ∧ b < n := by
  constructor
  · intro hs
    have := hs.lt
    omega
  · rintro ⟨rfl, hb⟩
    exact ⟨0, fun i hi => absurd hi (Nat.not_lt_zero i), hb, Nat.le_refl _, .inl rfl⟩
theorem sless_irrefl {V : Nat → Int} {n a : Nat} : ¬ SLess V n a a := by
  rintro ⟨k, _, h2, h3, h4⟩
  rcases h4 with h4 | h4 <;> omega
theorem sless_trans {V : Nat → Int} {n a b c : Nat} (h : SLess V n a b) (h' : SLess V n b c) : SLess V n a c := by
  obtain ⟨k, h1, h2, h3, h4⟩ := h
  obtain ⟨l, g1, g2, g3, g4⟩ := h'
  rcases Nat.lt_trichotomy k l with hkl | rfl | hkl
  · refine ⟨k, fun i hi => (h1 i hi).trans (g1 i (by omega)), by omega, h3, ?_⟩
    rcases h4 with h4 | h4
    · exact .inl h4
    · exact .inr (by rw [← g1 k hkl]; exact h4)
  · refine ⟨k, fun i hi => (h1 i hi).trans (g1 i hi), g2, h3, ?_⟩
    rcases h4 with h4 | h4
    · exact .inl h4
    · rcases g4 with g4 | g4
      · omega
      · exact .inr (by omega)
  · refine ⟨l, fun i hi => (h1 i (by omega)).trans (g1 i hi), g2, by omega, ?_⟩
    rcases g4 with g4 | g4
    · omega
    · exact .inr (by rw [h1 l hkl]; exact g4)
theorem sless_asymm {V : Nat → Int} {n a b : Nat} (h : SLess V n a b) : ¬ SLess V n b a := fun h' => sless_irrefl (sless_trans h h')
theorem sless_total {V : Nat → Int} {n : Nat} : ∀ (m a b : Nat), n - a ≤ m → a ≤ n → b ≤ n → a ≠ b → SLess V n a b ∨ SLess V n b a := by
  intro m
  induction m with
  | zero =>
    intro a b hm ha hb hne
    exact .inl ((sless_end ha (by omega)).2 (by omega))
  | succ m ih =>
    intro a b hm ha hb hne
    by_cases hab : a < n ∧ b < n
    · by_cases he : V a = V b
      · rcases ih (a + 1) (b + 1) (by omega) (by omega) (by omega) (by omega) with h | h
        · exact .inl ((sless_step hab.1 hab.2 he).2 h)
        · exact .inr ((sless_step hab.2 hab.1 he.symm).2 h)
      · rcases Int.lt_or_gt_of_ne he with h | h
        · exact .inl ((sless_now hab.1 hab.2 he).2 h)
        · exact .inr ((sless_now hab.2 hab.1 (Ne.symm he)).2 h)
    · by_cases han : a = n
      · exact .inl ((sless_end ha hab).2 (by omega))
      · exact .inr ((sless_end hb (by omega)).2 (by omega))
theorem sless_or {V : Nat → Int} {n a b : Nat} (ha : a ≤ n) (hb : b ≤ n) (hne : a ≠ b) : SLess V n a b ∨ SLess V n b a := sless_total (n - a) a b (Nat.le_refl _) ha hb hne
/-- numbers in the same order: suffixes in the same order. -/
theorem sless_map {V V' : Nat → Int} {n : Nat} (hm : ∀ i j, i < n → j < n → (V i < V j ↔ V' i < V' j)) {a b : Nat} : SLess V n a b ↔ SLess V' n a b := by
  have he : ∀ i j, i < n → j < n → (V i = V j ↔ V' i = V' j) := fun i j hi hj => by
    have h1 := hm i j hi hj
    have h2 := hm j i hj hi
    omega
  constructor
  · rintro ⟨k, h1, h2, h3, h4⟩
    refine ⟨k, fun i hi => (he _ _ (by omega) (by omega)).1 (h1 i hi), h2, h3, ?_⟩
    rcases h4 with h4 | h4
    · exact .inl h4
    · by_cases h5 : a + k = n
      · exact .inl h5
      · exact .inr ((hm _ _ (by omega) h2).1 h4)
  · rintro ⟨k, h1, h2, h3, h4⟩
    refine ⟨k, fun i hi => (he _ _ (by omega) (by omega)).2 (h1 i hi), h2, h3, ?_⟩
    rcases h4 with h4 | h4
    · exact .inl h4
    · by_cases h5 : a + k = n
      · exact .inl h5
      · exact .inr ((hm _ _ (by omega) h2).2 h4)
theorem sless_congr {V V' : Nat → Int} {n : Nat} (h : ∀ i, i < n → V i = V' i) {a b : Nat} : SLess V n a b ↔ SLess V' n a b := sless_map fun i j hi hj => by rw [h i hi, h j hj]
/-- a tail's suffixes. -/
theorem sless_tail {V : Nat → Int} {n k a b : Nat} (hk : k ≤ n) : SLess (fun i => V (k + i)) (n - k) a b ↔ SLess V n (k + a) (k + b) := by
  constructor
  · rintro ⟨j, h1, h2, h3, h4⟩
    refine ⟨j, fun i hi => ?_, by omega, by omega, ?_⟩
    · have := h1 i hi
      rwa [show k + a + i = k + (a + i) by omega, show k + b + i = k + (b + i) by omega]
    · rcases h4 with h4 | h4
      · exact .inl (by omega)
      · exact .inr (by rwa [show k + a + j = k + (a + j) by omega, show k + b + j = k + (b + j) by omega])
  · rintro ⟨j, h1, h2, h3, h4⟩
    refine ⟨j, fun i hi => ?_, by omega, by omega, ?_⟩
    · have := h1 i hi
      rwa [show k + a + i = k + (a + i) by omega, show k + b + i = k + (b + i) by omega] at this
    · rcases h4 with h4 | h4
      · exact .inl (by omega)
      · exact .inr (by rwa [show k + a + j = k + (a + j) by omega, show k + b + j = k + (b + j) by omega] at h4)
/-- an end that is less than all numbers. -/
theorem sless_ended {V W : Nat → Int} {n : Nat} (hV : ∀ i j, i < n → j < n → (V i < V j ↔ W i < W j)) (hW : ∀ i, i < n → W n < W i) {a b : Nat} (ha : a < n) (_hb : b < n) : SLess W (n + 1) a b ↔ SLess V n a b := by
  have he : ∀ i j, i < n → j < n → (V i = V j ↔ W i = W j) := fun i j hi hj => by
    have h1 := hV i j hi hj
    have h2 := hV j i hj hi
    omega
  constructor
  · rintro ⟨k, h1, h2, h3, h4⟩
    have hbk : b + k < n := by
      apply Nat.lt_of_not_le
      intro hge
      have hbn : b + k = n := by omega
      by_cases h5 : a + k = n + 1
      · have h6 := h1 (n - a) (by omega)
        rw [show a + (n - a) = n by omega] at h6
        have h7 := hW (b + (n - a)) (by omega)
        omega
      · have h4 := h4.resolve_left h5
        rw [hbn] at h4
        have hak : a + k < n ∨ a + k = n := by omega
        rcases hak with h | h
        · have := hW (a + k) h
          omega
        · rw [h] at h4
          omega
    have hak : a + k ≤ n := by
      apply Nat.le_of_not_lt
      intro hlt
      have h6 := h1 (n - a) (by omega)
      rw [show a + (n - a) = n by omega] at h6
      have h7 := hW (b + (n - a)) (by omega)
      omega
    refine ⟨k, fun i hi => (he _ _ (by omega) (by omega)).2 (h1 i hi), hbk, hak, ?_⟩
    by_cases h : a + k = n
    · exact .inl h
    · rcases h4 with h4 | h4
      · omega
      · exact .inr ((hV _ _ (by omega) hbk).2 h4)
  · rintro ⟨k, h1, h2, h3, h4⟩
    refine ⟨k, fun i hi => (he _ _ (by omega) (by omega)).1 (h1 i hi), by omega, by omega, ?_⟩
    right
    by_cases h : a + k = n
    · rw [h]
      exact hW _ h2
    · rcases h4 with h4 | h4
      · omega
      · exact (hV _ _ (by omega) h2).1 h4

/-- no two alike below n, all below n: each below n is there. -/
theorem inj_onto : ∀ (n : Nat) (f : Nat → Nat), (∀ i, i < n → f i < n) → (∀ i j, i < n → j < n → f i = f j → i = j) → ∀ p, p < n → ∃ i, i < n ∧ f i = p := by
  intro n
  induction n with
  | zero => intro f _ _ p hp; omega
  | succ n ih =>
    intro f hf hi p hp
    have hg := ih (fun i => if f i = n then f n else f i) (fun i hin => by
      show (if f i = n then f n else f i) < n
      have h1 := hf i (by omega)
      have h2 := hf n (by omega)
      split
      · rename_i h
        have : f n ≠ n := fun e => by
          have := hi i n (by omega) (by omega) (by omega)
          omega
        omega
      · omega) (fun i j hin hjn he => by
      have he : (if f i = n then f n else f i) = (if f j = n then f n else f j) := he
      split at he
      · split at he
        · exact hi i j (by omega) (by omega) (by omega)
        · have := hi n j (by omega) (by omega) he
          omega
      · split at he
        · have := hi i n (by omega) (by omega) he
          omega
        · exact hi i j (by omega) (by omega) he)
    by_cases hpn : p < n
    · obtain ⟨i, h1, h2⟩ := hg p hpn
      have h2 : (if f i = n then f n else f i) = p := h2
      split at h2
      · exact ⟨n, by omega, h2⟩
      · exact ⟨i, by omega, h2⟩
    · obtain rfl : p = n := by omega
      by_cases hfn : f p = p
      · exact ⟨p, by omega, hfn⟩
      · obtain ⟨i, h1, h2⟩ := hg (f p) (by have := hf p (by omega); omega)
        have h2 : (if f i = p then f p else f i) = f p := h2
        split at h2
        · rename_i h
          exact ⟨i, by omega, h⟩
        · have := hi i p (by omega) (by omega) h2
          omega

/-- s: all places of a list, the least suffix's first. -/
def IsSA (V : Nat → Int) (n : Nat) (s : Nat → Nat) : Prop := (∀ i, i < n → s i < n) ∧ ∀ i j, i < j → j < n → SLess V n (s i) (s j)
section
variable {V V' : Nat → Int} {n : Nat} {s s' : Nat → Nat}
theorem IsSA.inj (h : IsSA V n s) {i j : Nat} (hi : i < n) (hj : j < n) (he : s i = s j) : i = j := by
  rcases Nat.lt_trichotomy i j with h1 | h1 | h1
  · have := h.2 i j h1 hj
    rw [he] at this
    exact absurd this sless_irrefl
  · exact h1
  · have := h.2 j i h1 hi
    rw [he] at this
    exact absurd this sless_irrefl
theorem IsSA.onto (h : IsSA V n s) {p : Nat} (hp : p < n) : ∃ i, i < n ∧ s i = p := inj_onto n s h.1 (fun _ _ hi hj he => h.inj hi hj he) p hp
/-- there is no other one. -/
theorem IsSA.one (h : IsSA V n s) (h' : IsSA V n s') : ∀ i, i < n → s i = s' i := by
  intro i
  induction i using Nat.strongRecOn with
  | ind i ih =>
    intro hi
    obtain ⟨j, hj, he⟩ := h'.onto (h.1 i hi)
    have h1 : i ≤ j := by
      apply Nat.le_of_not_lt
      intro hlt
      have := ih j hlt hj
      rw [he] at this
      have := h.inj hj hi this
      omega
    by_cases e : j = i
    · rw [← he, e]
    · have h2 := h'.2 i j (by omega) hj
      rw [he] at h2
      obtain ⟨m, hm, hme⟩ := h.onto (h'.1 i hi)
      have h3 : i ≤ m := by
        apply Nat.le_of_not_lt
        intro hlt
        have := ih m hlt hm
        rw [hme] at this
        have := h'.inj hi hm this
        omega
      rw [← hme] at h2
      rcases Nat.lt_or_ge i m with h4 | h4
      · exact absurd h2 (sless_asymm (h.2 i m h4 hm))
      · have : m = i := by omega
        rw [this] at h2
        exact absurd h2 sless_irrefl
theorem IsSA.mapped (h : IsSA V n s) (hm : ∀ i j, i < n → j < n → (V i < V j ↔ V' i < V' j)) : IsSA V' n s := ⟨h.1, fun i j hij hj => (sless_map hm).1 (h.2 i j hij hj)⟩
theorem IsSA.congr (h : IsSA V n s) (hs : ∀ i, i < n → s i = s' i) : IsSA V n s' := ⟨fun i hi => by rw [← hs i hi]; exact h.1 i hi, fun i j hij hj => by rw [← hs i (by omega), ← hs j hj]; exact h.2 i j hij hj⟩
/-- with an end less than all numbers: it stands first. -/
theorem IsSA.ended {W : Nat → Int} (h : IsSA V n s) (hV : ∀ i j, i < n → j < n → (V i < V j ↔ W i < W j)) (hW : ∀ i, i < n → W n < W i) : IsSA W (n + 1) (fun i => if i = 0 then n else s (i - 1)) := by
  refine ⟨fun i hi => ?_, fun i j hij hj => ?_⟩
  · show (if i = 0 then n else s (i - 1)) < n + 1
    split
    · omega
    · have := h.1 (i - 1) (by omega)
      omega
  · show SLess W (n + 1) (if i = 0 then n else s (i - 1)) (if j = 0 then n else s (j - 1))
    rw [if_neg (show ¬ j = 0 by omega)]
    split
    · have h1 := h.1 (j - 1) (by omega)
      have h2 := hW _ h1
      exact (sless_now (by omega) (by omega) (by omega)).2 h2
    · exact (sless_ended hV hW (h.1 _ (by omega)) (h.1 _ (by omega))).2 (h.2 _ _ (by omega) (by omega))
end

/-- those of the first i places in order that are from k on. -/
def fromK (s : Nat → Nat) (k i : Nat) : Nat := Pl.cnt (fun j => decide (k ≤ s j)) i
theorem fromK_succ (s : Nat → Nat) (k i : Nat) : fromK s k (i + 1) = fromK s k i + (if k ≤ s i then 1 else 0) := by
  unfold fromK
  rw [Pl.cnt_succ]
  by_cases h : k ≤ s i <;> simp [h]
theorem fromK_mono (s : Nat → Nat) (k : Nat) {a b : Nat} (h : a ≤ b) : fromK s k a ≤ fromK s k b := Pl.cnt_mono _ h
/-- where the place of number m of a tail's order stands: in the order of all. -/
theorem tail_at {V : Nat → Int} {n k : Nat} {s y : Nat → Nat} (hk : k ≤ n) (h : IsSA V n s) (h' : IsSA (fun i => V (k + i)) (n - k) y) : ∀ i, i < n → k ≤ s i → fromK s k i < n - k ∧ k + y (fromK s k i) = s i := by
  -- by number: as many of y are less than s i - k as of those from k on stand ahead of it
  have step : ∀ i, i ≤ n → (∀ j, j < i → k ≤ s j → fromK s k j < n - k ∧ k + y (fromK s k j) = s j) ∧ fromK s k i ≤ n - k ∧ ∀ m, m < fromK s k i → ∃ j, j < i ∧ k ≤ s j ∧ k + y m = s j := by
    intro i
    induction i with
    | zero => intro _; exact ⟨fun j hj => absurd hj (Nat.not_lt_zero j), Nat.zero_le _, fun m hm => absurd hm (by simp [fromK, Pl.cnt])⟩
    | succ i ih =>
      intro hi
      obtain ⟨h1, h2, h3⟩ := ih (by omega)
      by_cases hs : k ≤ s i
      · have hsi := h.1 i (by omega)
        obtain ⟨m, hm, hme⟩ := h'.onto (p := s i - k) (by omega)
        have hmi : m = fromK s k i := by
          rcases Nat.lt_trichotomy m (fromK s k i) with hlt | heq | hgt
          · obtain ⟨j, hj, _, hje⟩ := h3 m hlt
            rw [hme] at hje
            have := h.inj (i := j) (j := i) (by omega) (by omega) (by omega)
            omega
          · exact heq
          · have hq := h'.2 (fromK s k i) m hgt hm
            rw [sless_tail hk, hme, show k + (s i - k) = s i by omega] at hq
            have hqn := h'.1 (fromK s k i) (by omega)
            obtain ⟨j, hj, hje⟩ := h.onto (p := k + y (fromK s k i)) (by omega)
            rw [← hje] at hq
            have hji : j < i := by
              rcases Nat.lt_trichotomy j i with h4 | h4 | h4
              · exact h4
              · rw [h4] at hq
                exact absurd hq sless_irrefl
              · exact absurd hq (sless_asymm (h.2 i j h4 hj))
            obtain ⟨h5, h6⟩ := h1 j hji (by omega)
            have h7 := h'.inj (i := fromK s k j) (j := fromK s k i) h5 (by omega) (by omega)
            have h8 := fromK_succ s k j
            rw [if_pos (by omega)] at h8
            have h9 := fromK_mono s k (show j + 1 ≤ i from hji)
            omega
        subst hmi
        have hnew : k + y (fromK s k i) = s i := by omega
        refine ⟨fun j hj hjs => ?_, ?_, fun m hm => ?_⟩
        · by_cases e : j = i
          · subst e
            exact ⟨hm, hnew⟩
          · exact h1 j (by omega) hjs
        · rw [fromK_succ, if_pos hs]
          omega
        · rw [fromK_succ, if_pos hs] at hm
          by_cases e : m = fromK s k i
          · subst e
            exact ⟨i, by omega, hs, hnew⟩
          · obtain ⟨j, h4, h5⟩ := h3 m (by omega)
            exact ⟨j, by omega, h5⟩
      · have e : fromK s k (i + 1) = fromK s k i := by rw [fromK_succ, if_neg hs]; rfl
        refine ⟨fun j hj hjs => ?_, by rw [e]; exact h2, fun m hm => ?_⟩
        · by_cases e : j = i
          · subst e
            exact absurd hjs hs
          · exact h1 j (by omega) hjs
        · rw [e] at hm
          obtain ⟨j, h4, h5⟩ := h3 m hm
          exact ⟨j, by omega, h5⟩
  intro i hi hs
  exact (step (i + 1) hi).1 i (by omega) hs
/-- all of a tail's places are there. -/
theorem fromK_all {V : Nat → Int} {n k : Nat} {s : Nat → Nat} (hk : k ≤ n) (h : IsSA V n s) (hex : ∃ y, IsSA (fun i => V (k + i)) (n - k) y) : fromK s k n = n - k := by
  obtain ⟨y, h'⟩ := hex
  have h1 : fromK s k n ≤ n - k := by
    rcases Nat.eq_zero_or_pos (fromK s k n) with h0 | h0
    · omega
    · -- the last one that counts
      have : ∀ i, i ≤ n → fromK s k i ≤ n - k := by
        intro i
        induction i with
        | zero => intro _; exact Nat.zero_le _
        | succ i ih =>
          intro hi
          rw [fromK_succ]
          split
          · rename_i hs
            have := (tail_at hk h h' i (by omega) hs).1
            omega
          · exact ih (by omega)
      exact this n (Nat.le_refl _)
  have h2 : n - k ≤ fromK s k n := by
    apply Nat.le_of_not_lt
    intro hlt
    have hq := h'.1 (fromK s k n) hlt
    obtain ⟨j, hj, hje⟩ := h.onto (p := k + y (fromK s k n)) (by omega)
    obtain ⟨h3, h4⟩ := tail_at hk h h' j hj (by omega)
    have h5 := h'.inj h3 hlt (by omega)
    have h6 := fromK_succ s k j
    rw [if_pos (by omega)] at h6
    have h7 := fromK_mono s k (show j + 1 ≤ n from hj)
    omega
  omega

/-- each number from 0 to n - 1 once. -/
def IsPerm (V : Nat → Int) (n : Nat) : Prop := (∀ i, i < n → 0 ≤ V i ∧ V i < (n : Int)) ∧ ∀ i j, i < j → j < n → V i ≠ V j
/-- turned: at V i the number i. -/
def Turns (V R : Nat → Int) (n : Nat) : Prop := ∀ i, i < n → R (V i).toNat = (i : Int)
section
variable {V R R' : Nat → Int} {n : Nat}
theorem IsPerm.inj (h : IsPerm V n) {i j : Nat} (hi : i < n) (hj : j < n) (he : V i = V j) : i = j := by
  rcases Nat.lt_trichotomy i j with h1 | h1 | h1
  · exact absurd he (h.2 i j h1 hj)
  · exact h1
  · exact absurd he.symm (h.2 j i h1 hi)
theorem IsPerm.onto (h : IsPerm V n) {p : Nat} (hp : p < n) : ∃ i, i < n ∧ V i = (p : Int) := by
  obtain ⟨i, h1, h2⟩ := inj_onto n (fun i => (V i).toNat) (fun i hi => by have := h.1 i hi; show (V i).toNat < n; omega) (fun i j hi hj he => h.inj hi hj (by
    have h1 := h.1 i hi
    have h2 := h.1 j hj
    have he : (V i).toNat = (V j).toNat := he
    omega)) p hp
  refine ⟨i, h1, ?_⟩
  have h3 := h.1 i h1
  have h2 : (V i).toNat = p := h2
  omega
theorem Turns.one (h : IsPerm V n) (hR : Turns V R n) (hR' : Turns V R' n) : ∀ p, p < n → R p = R' p := fun p hp => by
  obtain ⟨i, hi, he⟩ := h.onto hp
  have h1 := hR i hi
  have h2 := hR' i hi
  rw [he, Int.toNat_natCast] at h1 h2
  rw [h1, h2]
theorem Turns.perm (h : IsPerm V n) (hR : Turns V R n) : IsPerm R n := by
  have each : ∀ p, p < n → ∃ i, i < n ∧ V i = (p : Int) ∧ R p = (i : Int) := fun p hp => by
    obtain ⟨i, hi, he⟩ := h.onto hp
    have h1 := hR i hi
    rw [he, Int.toNat_natCast] at h1
    exact ⟨i, hi, he, h1⟩
  refine ⟨fun p hp => ?_, fun p q hpq hq he => ?_⟩
  · obtain ⟨i, hi, _, e⟩ := each p hp
    omega
  · obtain ⟨i, hi, h1, h2⟩ := each p (by omega)
    obtain ⟨j, hj, h3, h4⟩ := each q hq
    have : i = j := by omega
    subst this
    omega
theorem Turns.back (h : IsPerm V n) (hR : Turns V R n) : Turns R V n := fun p hp => by
  obtain ⟨i, hi, he⟩ := h.onto hp
  have h1 := hR i hi
  rw [he, Int.toNat_natCast] at h1
  rw [h1, Int.toNat_natCast, he]
theorem IsSA.perm {V : Nat → Int} {n : Nat} {s : Nat → Nat} (h : IsSA V n s) : IsPerm (fun i => ((s i : Nat) : Int)) n := ⟨fun i hi => by have := h.1 i hi; show 0 ≤ ((s i : Nat) : Int) ∧ ((s i : Nat) : Int) < n; omega, fun i j hij hj he => by
  have he : ((s i : Nat) : Int) = ((s j : Nat) : Int) := he
  have := h.inj (i := i) (j := j) (by omega) hj (by omega)
  omega⟩
end
/-- which of two suffixes is less. -/
noncomputable def leastI (V : Nat → Int) (n : Nat) (a b : Int) : Int :=
  open Classical in
  if 0 ≤ a ∧ a < (n : Int) ∧ 0 ≤ b ∧ b < (n : Int) ∧ a ≠ b then (if SLess V n a.toNat b.toNat then -1 else 1) else 0
theorem leastI_out {V : Nat → Int} {n : Nat} {a b : Int} (h : ¬ (0 ≤ a ∧ a < (n : Int) ∧ 0 ≤ b ∧ b < (n : Int) ∧ a ≠ b)) : leastI V n a b = 0 := by
  unfold leastI
  rw [if_neg h]
theorem leastI_less {V : Nat → Int} {n a b : Nat} (ha : a < n) (hb : b < n) (h : SLess V n a b) : leastI V n (a : Int) (b : Int) = -1 := by
  have hne : a ≠ b := fun e => by rw [e] at h; exact sless_irrefl h
  unfold leastI
  rw [if_pos (by omega), Int.toNat_natCast, Int.toNat_natCast, if_pos h]
theorem leastI_more {V : Nat → Int} {n a b : Nat} (ha : a < n) (hb : b < n) (h : SLess V n b a) : leastI V n (a : Int) (b : Int) = 1 := by
  have hne : a ≠ b := fun e => by rw [e] at h; exact sless_irrefl h
  unfold leastI
  rw [if_pos (by omega), Int.toNat_natCast, Int.toNat_natCast, if_neg (sless_asymm h)]
end Go.Proofs.YtbkdloebbbmkaaaGreat

namespace Go.Proofs.YtbkdloebbbmkaaaGreat
open Go.ChangeShapes Go.WideShapes Go.ChangeAt Go.RowKit

theorem u8_nat {a : Int} (h : (Lit.int .u8 a).wf = true) : ∃ x : Nat, x < 256 ∧ a = (x : Int) := by
  simp [Lit.wf, IntKind.min, IntKind.max, IntKind.bits, IntKind.signed] at h
  exact ⟨a.toNat, by omega, by omega⟩

/-- a slice of bytes, as it lies. -/
def Bys (w : World) (B : Nat) (A : Option Addr) (n : Nat) (V : Nat → Nat) : Prop :=
  ∀ k, k < n → ∃ ad : Addr, A = some ad ∧ ad.block < B ∧ w.cell? (ad.add k) = some (.int .u8 ((V k : Nat) : Int)) ∧ V k < 256
theorem Bys.below {w w' : World} {B : Nat} {A : Option Addr} {n : Nat} {V : Nat → Nat} (h : Bys w B A n V) (hb : Below B w w') : Bys w' B A n V := fun k hk => by
  obtain ⟨ad, e, h1, h2, h3⟩ := h k hk
  exact ⟨ad, e, h1, (hb.cell (by rw [add_block]; exact h1)).trans h2, h3⟩
theorem Bys.mono_ {w : World} {B B' : Nat} {A : Option Addr} {n : Nat} {V : Nat → Nat} (h : Bys w B A n V) (hB : B ≤ B') : Bys w B' A n V := fun k hk => by
  obtain ⟨ad, e, h1, h2, h3⟩ := h k hk
  exact ⟨ad, e, Nat.lt_of_lt_of_le h1 hB, h2, h3⟩

theorem cells_u8 : Tryz.prog.cellsOf 5 = 1 := by kernel_rfl

section
variable {H : Type} {enc : TypeId × Value → H}
set_option maxRecDepth 100000 in
theorem open_bytes {W : World} {v : Value} {d : DataW H} {p : List MemPlace} {b : Nat} {r : Reach} (hv : Value.okWide Tryz.prog W r b 35 v) (h : DataW.Trod enc Tryz.prog W 0 (fun _ => true) true 35 v d p) :
    ∃ (A : Option Addr) (n c : Nat) (V : Nat → Nat), v = .slice A n c ∧ n ≤ maxLen ∧ (A = none → n = 0 ∧ c = 0) ∧ Bys W W.heap.size A n V := by
  obtain ⟨a0, len, cap, rfl⟩ := okWide_slice Tryz.underlying35 hv
  obtain ⟨fuel, hf⟩ := h
  rcases open_ints Tryz.underlying35 Tryz.underlying5 cells_u8 hf with ⟨hcs, _⟩ | ⟨a, n, c, zs, hcs, _, hl, hm, hz, _, hcell, hwz⟩
  · simp [Value.cells] at hcs
    obtain ⟨rfl, rfl, rfl⟩ := hcs
    exact ⟨none, 0, 0, fun _ => 0, rfl, Nat.zero_le _, fun _ => ⟨rfl, rfl⟩, fun k hk => absurd hk (by omega)⟩
  · simp [Value.cells] at hcs
    obtain ⟨rfl, rfl, rfl⟩ := hcs
    have hnm : len ≤ zs.length := by rw [hz]; split <;> omega
    refine ⟨some a, len, cap, fun k => (zs.getD k 0).toNat, rfl, Nat.le_trans hl hm, fun e => (by cases e), fun k hk => ?_⟩
    have e0 := hcell k (by omega)
    have hlt := cell_in e0
    rw [add_block] at hlt
    have hmem : zs.getD k 0 ∈ zs := by
      rw [List.getD_eq_getElem?_getD, List.getElem?_eq_getElem (by omega)]
      exact List.getElem_mem _
    obtain ⟨x, hx, hxz⟩ := u8_nat (hwz _ hmem)
    refine ⟨a, rfl, hlt, ?_, ?_⟩
    · show W.cell? (a.add k) = some (.int .u8 (((zs.getD k 0).toNat : Nat) : Int))
      rw [e0, hxz, Int.toNat_natCast]
    · show (zs.getD k 0).toNat < 256
      rw [hxz]
      exact hx
end
end Go.Proofs.YtbkdloebbbmkaaaGreat

namespace Go.Proofs.YtbkdloebbbmkaaaGreat
open Go.RowKit

theorem info_u8 : (Tryz.prog.info? 5).map (fun i => (i.zero, i.size, i.bytes)) = some (some (.int .u8 0), 1, 1) := by kernel_rfl

/-- bytes as cells. -/
def ycells (V : Nat → Nat) (n : Nat) : List Value := (List.range n).map fun (j : Nat) => Value.int .u8 ((V j : Nat) : Int)
theorem ycells_length (V : Nat → Nat) (n : Nat) : (ycells V n).length = n := by unfold ycells; simp
theorem ycells_at (V : Nat → Nat) (n k : Nat) (h : k < n) : (ycells V n)[k]? = some (.int .u8 ((V k : Nat) : Int)) := by
  unfold ycells
  rw [List.getElem?_map, List.getElem?_range h]
  rfl
theorem ycells_snoc (V : Nat → Nat) (n : Nat) : ycells V (n + 1) = ycells V n ++ [.int .u8 ((V n : Nat) : Int)] := by
  unfold ycells
  rw [List.range_succ]
  simp
theorem ycells_one (V : Nat → Nat) (n : Nat) : ∀ v ∈ ycells V n, v.oneCell' = true := by
  intro v hv
  unfold ycells at hv
  obtain ⟨x, _, rfl⟩ := List.mem_map.1 hv
  rfl
/-- one list behind the other. -/
def both (V U : Nat → Nat) (n : Nat) : Nat → Nat := fun j => if j < n then V j else U (j - n)
theorem ycells_both (V U : Nat → Nat) (n m : Nat) : ycells V n ++ ycells U m = ycells (both V U n) (n + m) := by
  apply List.ext_getElem?
  intro k
  by_cases h : k < n
  · rw [List.getElem?_append_left (by rw [ycells_length]; exact h), ycells_at _ _ _ h, ycells_at _ _ _ (by omega)]
    unfold both
    rw [if_pos h]
  · rw [List.getElem?_append_right (by rw [ycells_length]; omega), ycells_length]
    by_cases h2 : k < n + m
    · rw [ycells_at _ _ _ (by omega), ycells_at _ _ _ h2]
      unfold both
      rw [if_neg h]
    · rw [List.getElem?_eq_none (by rw [ycells_length]; omega), List.getElem?_eq_none (by rw [ycells_length]; omega)]

/-- a row of the call's own, as a slice of bytes. -/
theorem bys_of_row {w : World} {base n : Nat} {v : Value} {V : Nat → Nat} (h : w.ownsRow base 5 1 v n (ycells V n)) (hV : ∀ j, j < n → V j < 256) :
    ∃ (A : Option Addr) (c : Nat), v = .slice A n c ∧ (A = none → n = 0 ∧ c = 0) ∧ Bys w w.heap.size A n V := by
  have hc := h
  rcases h.2 with ⟨rfl, rfl⟩ | ⟨g, cap, cur, rfl, hb, hg, rest⟩
  · exact ⟨none, 0, rfl, fun _ => ⟨rfl, rfl⟩, fun k hk => absurd hk (by omega)⟩
  · refine ⟨some ⟨g, 0, none⟩, cap, rfl, fun e => (by cases e), fun k hk => ⟨⟨g, 0, none⟩, rfl, (hc.lt g rfl).2, ?_, hV k hk⟩⟩
    exact hc.cells rfl k _ (ycells_at V n k hk)

/-- append of one byte. -/
theorem step_append_byte {ops : Array Oper} {rest : List Oper} {o : Oper} {a : Act} {Q : Exit → Act → World → Prop} (hgd : o.guard = none) (s x : Operand)
    (ho : o.op = .call { callee := .builtin .append, args := #[s, x], argTypes := #[35, 35] })
    {w : World} {B : Nat} {v : Value} {i : Nat} {xs : List Value} (hs : a.eval s = v) (hown : w.ownsRow B 5 1 v i xs) (y : Int) (hx : a.eval x = .slice (some ⟨w.heap.size, 0, none⟩) 1 1) (hB : B ≤ w.heap.size) (hi : i ≤ 4194304)
    (h : ∀ v' w', Hid (w'.ownsRow B 5 1 v' (i + 1) (xs ++ [.int .u8 y])) → Below B w w' → wpList Tryz.prog ops Q rest (a.put o.dst v') w') :
    wpList Tryz.prog ops Q (o :: rest) a (w.alloc (.cells #[.int .u8 y] 5)) := by
  obtain ⟨i0, hi0, hz0, hs0, hb0⟩ := info_parts info_u8
  have hl := lies_new w 5 [.int .u8 y]
  refine wpList_append_own _ hgd s x 35 ho B 5 i0 (.int .u8 0) 1 1 Tryz.underlying35 hi0 hz0 hs0 hb0 rfl (by decide) v i xs hs (hown.alloc _) ⟨w.heap.size, 0, none⟩ 1 1 [.int .u8 y] hx rfl (fun j u hj => by
      cases j with
      | zero => simp at hj; subst hj; exact hl.cell 0
      | succ j => simp at hj) (fun u hu => by simp at hu; subst hu; rfl) (by unfold maxLen; omega) (by omega) (by rw [size_alloc]; omega) (fun v' w' h2 h3 _ => ?_)
  exact h v' w' h2 (((Below.refl _ _).alloc hB _).grown h3 (by rw [size_alloc]; omega) (fun k hk => (hown.lt k hk).1))

/-- append of all bytes of a slice. -/
theorem step_append_bytes {ops : Array Oper} {rest : List Oper} {o : Oper} {a : Act} {Q : Exit → Act → World → Prop} (hgd : o.guard = none) (s x : Operand)
    (ho : o.op = .call { callee := .builtin .append, args := #[s, x], argTypes := #[35, 35] })
    {w : World} {B : Nat} {v : Value} {i : Nat} {xs : List Value} (hs : a.eval s = v) (hown : w.ownsRow B 5 1 v i xs) {A : Option Addr} {n c : Nat} {V : Nat → Nat} (hx : a.eval x = .slice A n c) (hA : A = none → n = 0 ∧ c = 0) {B' : Nat} (hW : Bys w B' A n V)
    (hB : B ≤ w.heap.size) (hi : i + n ≤ 4194304)
    (h : ∀ v' w', Hid (w'.ownsRow B 5 1 v' (i + n) (xs ++ ycells V n)) → Below B w w' → wpList Tryz.prog ops Q rest (a.put o.dst v') w') :
    wpList Tryz.prog ops Q (o :: rest) a w := by
  obtain ⟨i0, hi0, hz0, hs0, hb0⟩ := info_parts info_u8
  rcases A with _ | ad
  · obtain ⟨rfl, rfl⟩ := hA rfl
    refine wpList_append_own_none hgd s x 35 ho B 5 i0 1 Tryz.underlying35 hi0 _ i xs hs hown hx ?_
    exact h v w (Lib.hid (by rw [show ycells V 0 = [] from rfl, List.append_nil]; exact hown)) (Below.refl _ _)
  · refine wpList_append_own _ hgd s x 35 ho B 5 i0 (.int .u8 0) 1 1 Tryz.underlying35 hi0 hz0 hs0 hb0 rfl (by decide) v i xs hs hown ad n c (ycells V n) hx
      (by rw [ycells_length]; omega) (fun j u hj => ?_) (ycells_one V n) (by unfold maxLen; omega) (by omega) hB (fun v' w' h2 h3 _ => ?_)
    · have hjn : j < n := by
        have := (List.getElem?_eq_some_iff.1 hj).1
        rw [ycells_length] at this
        exact this
      rw [ycells_at V n j hjn] at hj
      obtain ⟨ad', e, hb, hc, _⟩ := hW j hjn
      cases e
      rw [← hj, ← hc]
    · exact h v' w' h2 ((Below.refl _ _).grown h3 hB (fun k hk => (hown.lt k hk).1))
end Go.Proofs.YtbkdloebbbmkaaaGreat
