/- A packed list and its numbers, both told; New, Get and Set by the numbers. -/
import Derived.Test.YtmcoehimjfgakaaSet
import Derived.Test.YtmcoehimjfgakaaMake
namespace Go.Proofs.Ytmcoehimjfgakaa
open Go.RowKit

/-- a packed list and its numbers, both told. -/
structure Full (w : World) (g gs width n : Nat) (ws : List Nat) (x : Nat → Nat) : Prop where
  pk : Pk w g gs width n ws
  holds : Pl.Holds ws width n x
  few : n ≤ 4194304

section
variable {w w' : World} {g gs width n : Nat} {ws : List Nat} {x : Nat → Nat}
theorem Full.room (h : Full w g gs width n ws x) : n * width ≤ 64 * ws.length := by rw [h.holds.len]; omega
theorem Full.short (h : Full w g gs width n ws x) : ws.length ≤ 4194304 := by
  rw [h.holds.len]
  have : n * width ≤ 4194304 * 64 := Nat.mul_le_mul h.few h.holds.w64
  omega
theorem Full.keep (h : Full w g gs width n ws x) (h1 : w'.heap[g]? = w.heap[g]?) (h2 : w'.heap[gs]? = w.heap[gs]?) : Full w' g gs width n ws x := ⟨h.pk.keep h1 h2, h.holds, h.few⟩
theorem Full.below {B : Nat} (h : Full w g gs width n ws x) (hb : Below B w w') (hg : g < B) (hgs : gs < B) : Full w' g gs width n ws x := ⟨h.pk.below hb hg hgs, h.holds, h.few⟩
theorem Full.grown {row : Option Nat} (h : Full w g gs width n ws x) (hb : w.grownBy w' row) (hg : some g ≠ row) (hgs : some gs ≠ row) : Full w' g gs width n ws x := ⟨h.pk.grown hb hg hgs, h.holds, h.few⟩

theorem Full.alloc (h : Full w g gs width n ws x) (o : Obj) : Full (w.alloc o) g gs width n ws x := ⟨h.pk.alloc o, h.holds, h.few⟩
theorem Full.far (h : Full w g gs width n ws x) {p : Addr} (h1 : g ≠ p.block) (h2 : gs ≠ p.block) (u : Value) : Full (w.setCell p u) g gs width n ws x := h.keep (Below.heap_setCell w p u g h1) (Below.heap_setCell w p u gs h2)

theorem Full.drewN (h : Full w g gs width n ws x) (k : Nat) : Full (w.drewN k) g gs width n ws x := ⟨h.pk.drewN k, h.holds, h.few⟩
theorem Lies.drewN_ {t : TypeId} {cs : List Value} (h : Lies w g t cs) (k : Nat) : Lies (w.drewN k) g t cs := h
/-- a contract that keeps the world, as a step of a region that draws its order. -/
theorem quiet_keep {f : FuncId} {args : Array Value} {m : Nat} {v : Value} (h : Calls Try.prog f args (w.drewN m) fun e w' => e = .returned v ∧ w.drewN m = w') :
    Calls Try.prog f args (w.drewN m) fun e w'' => e = .returned v ∧ ∃ j, w'' = w.drewN j := h.mono fun _ _ hh => ⟨hh.1, m, hh.2.symm⟩

/-- Get, by the numbers. -/
theorem Full.get (h : Full w g gs width n ws x) (i : Nat) (hi : i < n) :
    Calls Try.prog 35 #[.pointer (some ⟨g, 0, none⟩), .int .i64 i] w fun e w' => e = .returned (.int .u64 ((x i : Nat) : Int)) ∧ w = w' := by
  have c := get_any h.pk h.holds.small h.holds.w1 h.holds.w64 h.few h.room i hi
  rw [h.holds.get hi] at c
  exact c
theorem Full.getOut (h : Full w g gs width n ws x) (i : Int) (hi : i < 0 ∨ (n : Int) ≤ i) :
    Calls Try.prog 35 #[.pointer (some ⟨g, 0, none⟩), .int .i64 i] w fun e w' => e = .returned (.int .u64 0) ∧ w = w' := get_out h.pk i hi

/-- what Set leaves, by the numbers. -/
def SetFull (w : World) (g gs width n : Nat) (x : Nat → Nat) (i v : Nat) (e : Ending) (w' : World) : Prop :=
  e = .returned (.bool true) ∧ ∃ ws, Full w' g gs width n ws (fun k => if k = i then v else x k) ∧ w.grownBy w' (some gs)
theorem Full.set_ (h : Full w g gs width n ws x) (i v : Nat) (hi : i < n) (hv : v < 2 ^ width) :
    Calls Try.prog 28 #[.pointer (some ⟨g, 0, none⟩), .int .i64 i, .int .u64 v] w (SetFull w g gs width n x i v) :=
  (set_any h.pk h.holds.small h.holds.w1 h.holds.w64 h.few h.room i v hi hv).mono fun _ _ ⟨he, hp, hg⟩ => ⟨he, _, ⟨hp, h.holds.set_ hi hv, h.few⟩, hg⟩
end

/-- what New leaves, by the numbers. -/
def NewFull (w : World) (width n : Nat) (e : Ending) (w' : World) : Prop :=
  ∃ g gs : Nat, e = .returned (.tuple #[.pointer (some ⟨g, 0, none⟩), .int .i64 0]) ∧ w.heap.size ≤ g ∧ w.heap.size ≤ gs ∧ Below w.heap.size w w' ∧ ∃ ws, Full w' g gs width n ws (fun _ => 0)
theorem new_full (width n : Nat) (h1 : 1 ≤ width) (h64 : width ≤ 64) (hn : n ≤ 4194304) (w : World) :
    Calls Try.prog 26 #[.int .i64 width, .int .i64 n] w (NewFull w width n) :=
  (new_any width n h1 h64 hn w).mono fun _ _ ⟨g, gs, he, hg, hgs, hp, hb⟩ => ⟨g, gs, he, hg, hgs, hb, _, hp, Pl.holds_new width n h1 h64, hn⟩
end Go.Proofs.Ytmcoehimjfgakaa
