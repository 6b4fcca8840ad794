/- What every law's row asks in the end: the call returned true and nothing that was there has turned, so each argument reads as it read. -/
import Derived.Test.YthbnojhcmfhnhaaRows
import Derived.WalkKit
import Derived.ProofKit
import Derived.OpenShut
namespace Go.Proofs.Ythbnojhcmfhnhaa
open Go.ChangeShapes Go.WideShapes Go.ChangeAt Go.RowKit

/-- a uint64 is a natural number below 2^64; an int lies within its bounds. -/
theorem u64_nat {a : Int} (h : (Lit.int .u64 a).wf = true) : ∃ x : Nat, x < 2 ^ 64 ∧ a = (x : Int) := by
  simp [Lit.wf, IntKind.min, IntKind.max, IntKind.bits, IntKind.signed] at h
  exact ⟨a.toNat, by omega, by omega⟩
theorem i64_in {a : Int} (h : (Lit.int .i64 a).wf = true) : -9223372036854775808 ≤ a ∧ a ≤ 9223372036854775807 := by
  simp [Lit.wf, IntKind.min, IntKind.max, IntKind.bits, IntKind.signed] at h
  omega

theorem cell_in {w : World} {a : Addr} {v : Value} (h : w.cell? a = some v) : a.block < w.heap.size := by
  apply Nat.lt_of_not_le
  intro hge
  simp [World.cell?, Array.getElem?_eq_none hge] at h
theorem add_block (a : Addr) (j : Nat) : (a.add j).block = a.block := by unfold Addr.add; split <;> rfl

/-- a slice of settings, as it lies: what place and what number, at each index. -/
def Ops (w : World) (B : Nat) (A : Option Addr) (n : Nat) (I : Nat → Int) (V : Nat → Nat) : Prop :=
  ∀ k, k < n → ∃ ad : Addr, A = some ad ∧ ad.block < B ∧ w.cell? (ad.add (k * 2)) = some (.int .i64 (I k)) ∧ w.cell? ⟨(ad.add (k * 2)).block, (ad.add (k * 2)).off + 1, none⟩ = some (.int .u64 ((V k : Nat) : Int)) ∧ V k < 2 ^ 64 ∧
    -9223372036854775808 ≤ I k ∧ I k ≤ 9223372036854775807
theorem Ops.below {w w' : World} {B : Nat} {A : Option Addr} {n : Nat} {I : Nat → Int} {V : Nat → Nat} (h : Ops w B A n I V) (hb : Below B w w') : Ops w' B A n I V := fun k hk => by
  obtain ⟨ad, e, h1, h2, h3, h4⟩ := h k hk
  exact ⟨ad, e, h1, (hb.cell (by rw [add_block]; exact h1)).trans h2, (hb.cell (by show (ad.add (k * 2)).block < B; rw [add_block]; exact h1)).trans h3, h4⟩

/-- a slice of words, as it lies. -/
def Wds (w : World) (B : Nat) (A : Option Addr) (n : Nat) (V : Nat → Nat) : Prop :=
  ∀ k, k < n → ∃ ad : Addr, A = some ad ∧ ad.block < B ∧ w.cell? (ad.add k) = some (.int .u64 ((V k : Nat) : Int)) ∧ V k < 2 ^ 64
theorem Wds.below {w w' : World} {B : Nat} {A : Option Addr} {n : Nat} {V : Nat → Nat} (h : Wds w B A n V) (hb : Below B w w') : Wds w' B A n V := fun k hk => by
  obtain ⟨ad, e, h1, h2, h3⟩ := h k hk
  exact ⟨ad, e, h1, (hb.cell (by rw [add_block]; exact h1)).trans h2, h3⟩

theorem Wds.mono_ {w : World} {B B' : Nat} {A : Option Addr} {n : Nat} {V : Nat → Nat} (h : Wds w B A n V) (hB : B ≤ B') : Wds w B' A n V := fun k hk => by
  obtain ⟨ad, e, h1, h2, h3⟩ := h k hk
  exact ⟨ad, e, Nat.lt_of_lt_of_le h1 hB, h2, h3⟩
theorem cells_u64 : Try.prog.cellsOf 55 = 1 := by kernel_rfl
theorem cells_int : Try.prog.cellsOf 3 = 1 := by kernel_rfl

section
variable {H : Type} {enc : TypeId × Value → H}
set_option maxRecDepth 100000 in
theorem open_words {W : World} {v : Value} {d : DataW H} {p : List MemPlace} {b : Nat} {r : Reach} (hv : Value.okWide Try.prog W r b 81 v) (h : DataW.Trod enc Try.prog W 0 (fun _ => true) true 81 v d p) :
    ∃ (A : Option Addr) (n c : Nat) (V : Nat → Nat), v = .slice A n c ∧ n ≤ maxLen ∧ (A = none → n = 0 ∧ c = 0) ∧ Wds W W.heap.size A n V := by
  obtain ⟨a0, len, cap, rfl⟩ := okWide_slice Try.underlying81 hv
  obtain ⟨fuel, hf⟩ := h
  rcases open_ints Try.underlying81 Try.underlying55 cells_u64 hf with ⟨hcs, _⟩ | ⟨a, n, c, zs, hcs, _, hl, hm, hz, _, hcell, hwz⟩
  · simp [Value.cells] at hcs
    obtain ⟨rfl, rfl, rfl⟩ := hcs
    exact ⟨none, 0, 0, fun _ => 0, rfl, Nat.zero_le _, fun _ => ⟨rfl, rfl⟩, fun k hk => absurd hk (by omega)⟩
  · simp [Value.cells] at hcs
    obtain ⟨rfl, rfl, rfl⟩ := hcs
    have hnm : len ≤ zs.length := by rw [hz]; split <;> omega
    refine ⟨some a, len, cap, fun k => (zs.getD k 0).toNat, rfl, Nat.le_trans hl hm, fun e => (by cases e), fun k hk => ?_⟩
    have e0 := hcell k (by omega)
    have hlt := cell_in e0
    rw [add_block] at hlt
    have hmem : zs.getD k 0 ∈ zs := by
      rw [List.getD_eq_getElem?_getD, List.getElem?_eq_getElem (by omega)]
      exact List.getElem_mem _
    obtain ⟨x, hx, hxz⟩ := u64_nat (hwz _ hmem)
    refine ⟨a, rfl, hlt, ?_, ?_⟩
    · show W.cell? (a.add k) = some (.int .u64 (((zs.getD k 0).toNat : Nat) : Int))
      rw [e0, hxz, Int.toNat_natCast]
    · show (zs.getD k 0).toNat < 2 ^ 64
      rw [hxz]
      exact hx
end

section
variable {H : Type} {enc : TypeId × Value → H}

theorem law_args (hl : laidOutB Try.prog = true) {W W' : World} (hb : Below W.heap.size W W') (sp : Nat → Bool) : ∀ (ts : List TypeId) (vs : List Value) (ds : List (DataW H)) (ps : List MemPlace),
    (∀ t ∈ ts, Try.prog.readableRec t = true ∧ t < Try.prog.types.size) → DataW.TrodAll enc Try.prog W 0 (fun _ => true) true ts vs ds ps → (∀ x ∈ ps, x.block < W.heap.size) → (∀ x ∈ ps, sp x.block = true) →
    DataW.TrodAll enc Try.prog W' 0 sp true ts vs ds ps
  | [], vs, ds, ps, _, h, _, _ => by
    obtain ⟨rfl, rfl, rfl⟩ := trodAll_nil h
    exact trodAll_mk0
  | t :: ts, vs, ds, ps, hts, h, hlt, hsp => by
    obtain ⟨v, vs, d, ds, p, q, rfl, rfl, rfl, h0, hrest⟩ := trodAll_cons h
    obtain ⟨hr, hn⟩ := hts t (List.mem_cons_self ..)
    exact trodAll_cons_mk (WideElems.Trod_stays hl hr hn h0 (fun x hx => hb.same (hlt x (by simp [hx]))) (fun x hx => hsp x (by simp [hx])))
      (law_args hl hb sp ts vs ds q (fun t ht => hts t (List.mem_cons_of_mem _ ht)) hrest (fun x hx => hlt x (by simp [hx])) (fun x hx => hsp x (by simp [hx])))

set_option maxRecDepth 100000 in
theorem law_post {f : Func} {s : ChangeSpec} {fresh handsOn again : Bool} {W W' : World} {args : Array Value} {ds : List (DataW H)} {before : List MemPlace} (hl : laidOutB Try.prog = true)
    (hvars : s.vars = []) (hres : f.resultTypes = #[4]) (hfn : s.fn H ds = { results := [.lit (.bool true)], args := ds }) (hts : ∀ t ∈ f.params.toList, Try.prog.readableRec t = true ∧ t < Try.prog.types.size)
    (hW : DataW.Whole enc Try.prog f.params.toList s.vars false W args.toList ds [] before) (hb : Below W.heap.size W W') :
    s.post enc Try.prog f false fresh handsOn again W args (.bool true) W' := by
  have hlt : ∀ p ∈ before, p.block < W.heap.size := fun p hp => hW.lt p hp
  have hfn' : s.fn H (ds ++ []) = { results := [.lit (.bool true)], args := ds } := by rw [List.append_nil]; exact hfn
  have hW0 := hW
  obtain ⟨p, q, hA, hV, hpq, hz, _⟩ := hW
  rw [hvars] at hV
  obtain ⟨_, rfl⟩ := trodVars_none hV
  rw [List.append_nil] at hpq
  subst hpq
  have hargs := fun sp hsp => law_args hl hb sp f.params.toList args.toList ds before hts hA hlt hsp
  have hbool : ∀ (b : Nat) (sp : Nat → Bool) (hd : Bool), DataW.TrodAll enc Try.prog W' b sp hd f.resultTypes.toList ((Value.bool true).resultList f.resultTypes.size) [.lit (.bool true)] [] := fun b sp hd => by
    rw [hres]
    exact trodAll_cons_mk (shut_bool Try.underlying4 _) trodAll_mk0
  refine ⟨ds, [], before, [], before, [], hW0, ?_, ?_, ?_, World.keptBut_mono (fun x hx => ⟨hx, .inr (by simpa using hx)⟩) (hb.frame (· ∈ before)), fun _ => ⟨?_, .lit (.bool true) :: ds, [], before, ⟨before, [], ?_, ?_, ?_, ?_, ?_⟩, ?_⟩⟩
  · rw [hfn']
    exact hbool _ _ _
  · rw [hfn']
    exact hargs _ (fun x hx => by simpa using hlt x hx)
  · rw [hvars, hfn']; rfl
  · exact ok_one hres rfl (okWide_bool_mk Try.underlying4 _)
  · rw [hres]
    exact trodAll_cons_mk (shut_bool Try.underlying4 _) (hargs _ (fun _ _ => rfl))
  · rw [hvars]; rfl
  · simp
  · intro b off hp
    rw [hb.frozen (hlt _ hp)]
    exact hz b off hp
  · intro h; cases h
  · intro p hp _; exact hp
end
end Go.Proofs.Ythbnojhcmfhnhaa
