/- The contract of the laws' own opening: it is true, and leaves what was there as it was. -/
import Derived.Test.YtlpoingajmogkaaSet
import Derived.Test.YtlpoingajmogkaaMake
import Derived.Test.YtlpoingajmogkaaLen
namespace Go.Proofs.Ytlpoingajmogkaa
open Go.RowKit

/-- a packed list and its numbers, both told. -/
structure Full (w : World) (g gs width n : Nat) (ws : List Nat) (x : Nat → Nat) : Prop where
  pk : Pk w g gs width n ws
  holds : Pl.Holds ws width n x
  few : n ≤ 4194304

section
variable {w w' : World} {g gs width n : Nat} {ws : List Nat} {x : Nat → Nat}
theorem Full.room (h : Full w g gs width n ws x) : n * width ≤ 64 * ws.length := by rw [h.holds.len]; omega
theorem Full.short (h : Full w g gs width n ws x) : ws.length ≤ 4194304 := by
  rw [h.holds.len]
  have : n * width ≤ 4194304 * 64 := Nat.mul_le_mul h.few h.holds.w64
  omega
theorem Full.keep (h : Full w g gs width n ws x) (h1 : w'.heap[g]? = w.heap[g]?) (h2 : w'.heap[gs]? = w.heap[gs]?) : Full w' g gs width n ws x := ⟨h.pk.keep h1 h2, h.holds, h.few⟩
theorem Full.below {B : Nat} (h : Full w g gs width n ws x) (hb : Below B w w') (hg : g < B) (hgs : gs < B) : Full w' g gs width n ws x := ⟨h.pk.below hb hg hgs, h.holds, h.few⟩
theorem Full.grown {row : Option Nat} (h : Full w g gs width n ws x) (hb : w.grownBy w' row) (hg : some g ≠ row) (hgs : some gs ≠ row) : Full w' g gs width n ws x := ⟨h.pk.grown hb hg hgs, h.holds, h.few⟩

theorem Full.alloc (h : Full w g gs width n ws x) (o : Obj) : Full (w.alloc o) g gs width n ws x := ⟨h.pk.alloc o, h.holds, h.few⟩
theorem Full.far (h : Full w g gs width n ws x) {p : Addr} (h1 : g ≠ p.block) (h2 : gs ≠ p.block) (u : Value) : Full (w.setCell p u) g gs width n ws x := h.keep (Below.heap_setCell w p u g h1) (Below.heap_setCell w p u gs h2)

theorem Full.drewN (h : Full w g gs width n ws x) (k : Nat) : Full (w.drewN k) g gs width n ws x := ⟨h.pk.drewN k, h.holds, h.few⟩
theorem Lies.drewN_ {t : TypeId} {cs : List Value} (h : Lies w g t cs) (k : Nat) : Lies (w.drewN k) g t cs := h
/-- a contract that keeps the world, as a step of a region that draws its order. -/
theorem quiet_keep {f : FuncId} {args : Array Value} {m : Nat} {v : Value} (h : Calls Try.prog f args (w.drewN m) fun e w' => e = .returned v ∧ w.drewN m = w') :
    Calls Try.prog f args (w.drewN m) fun e w'' => e = .returned v ∧ ∃ j, w'' = w.drewN j := h.mono fun _ _ hh => ⟨hh.1, m, hh.2.symm⟩

/-- Get, by the numbers. -/
theorem Full.get (h : Full w g gs width n ws x) (i : Nat) (hi : i < n) :
    Calls Try.prog 14 #[.pointer (some ⟨g, 0, none⟩), .int .i64 i] w fun e w' => e = .returned (.int .u64 ((x i : Nat) : Int)) ∧ w = w' := by
  have c := get_any h.pk h.holds.small h.holds.w1 h.holds.w64 h.few h.room i hi
  rw [h.holds.get hi] at c
  exact c
theorem Full.getOut (h : Full w g gs width n ws x) (i : Int) (hi : i < 0 ∨ (n : Int) ≤ i) :
    Calls Try.prog 14 #[.pointer (some ⟨g, 0, none⟩), .int .i64 i] w fun e w' => e = .returned (.int .u64 0) ∧ w = w' := get_out h.pk i hi

/-- what Set leaves, by the numbers. -/
def SetFull (w : World) (g gs width n : Nat) (x : Nat → Nat) (i v : Nat) (e : Ending) (w' : World) : Prop :=
  e = .returned (.bool true) ∧ ∃ ws, Full w' g gs width n ws (fun k => if k = i then v else x k) ∧ w.grownBy w' (some gs)
theorem Full.set_ (h : Full w g gs width n ws x) (i v : Nat) (hi : i < n) (hv : v < 2 ^ width) :
    Calls Try.prog 16 #[.pointer (some ⟨g, 0, none⟩), .int .i64 i, .int .u64 v] w (SetFull w g gs width n x i v) :=
  (set_any h.pk h.holds.small h.holds.w1 h.holds.w64 h.few h.room i v hi hv).mono fun _ _ ⟨he, hp, hg⟩ => ⟨he, _, ⟨hp, h.holds.set_ hi hv, h.few⟩, hg⟩
end

/-- what New leaves, by the numbers. -/
def NewFull (w : World) (width n : Nat) (e : Ending) (w' : World) : Prop :=
  ∃ g gs : Nat, e = .returned (.tuple #[.pointer (some ⟨g, 0, none⟩), .int .i64 0]) ∧ w.heap.size ≤ g ∧ w.heap.size ≤ gs ∧ Below w.heap.size w w' ∧ ∃ ws, Full w' g gs width n ws (fun _ => 0)
theorem new_full (width n : Nat) (h1 : 1 ≤ width) (h64 : width ≤ 64) (hn : n ≤ 4194304) (w : World) :
    Calls Try.prog 10 #[.int .i64 width, .int .i64 n] w (NewFull w width n) :=
  (new_any width n h1 h64 hn w).mono fun _ _ ⟨g, gs, he, hg, hgs, hp, hb⟩ => ⟨g, gs, he, hg, hgs, hb, _, hp, Pl.holds_new width n h1 h64, hn⟩

theorem first_new (w : World) : Calls Try.prog 10 #[.int .i64 3, .int .i64 3] w (NewPost w 3 3 [0]) := new_any 3 3 (by decide) (by decide) (by decide) w
theorem first_set {w : World} {g gs : Nat} (h : Pk w g gs 3 3 [0]) : Calls Try.prog 16 #[.pointer (some ⟨g, 0, none⟩), .int .i64 1, .int .u64 5] w (SetPost w g gs 3 3 [40]) :=
  set_any h (by intro x hx; simp at hx; omega) (by decide) (by decide) (by decide) (by decide) 1 5 (by decide) (by decide)
theorem first_set8 {w : World} {g gs : Nat} (h : Pk w g gs 3 3 [40]) : Calls Try.prog 16 #[.pointer (some ⟨g, 0, none⟩), .int .i64 1, .int .u64 8] w fun e w' => e = .returned (.bool false) ∧ w = w' :=
  set_wide h (by decide) 1 8 (by decide) (by decide)
theorem first_set3 {w : World} {g gs : Nat} (h : Pk w g gs 3 3 [40]) : Calls Try.prog 16 #[.pointer (some ⟨g, 0, none⟩), .int .i64 3, .int .u64 1] w fun e w' => e = .returned (.bool false) ∧ w = w' :=
  set_out h 3 1 (by decide)
theorem first_words {w : World} {g gs : Nat} (h : Pk w g gs 3 3 [40]) : Calls Try.prog 17 #[.pointer (some ⟨g, 0, none⟩)] w (CopyPost w [40]) := words_any h (by decide)
theorem first_get {w : World} {g gs : Nat} (h : Pk w g gs 3 3 [40]) : Calls Try.prog 14 #[.pointer (some ⟨g, 0, none⟩), .int .i64 1] w fun e w' => e = .returned (.int .u64 5) ∧ w = w' :=
  get_any h (by intro x hx; simp at hx; omega) (by decide) (by decide) (by decide) (by decide) 1 (by decide)
theorem first_getm {w : World} {g gs : Nat} (h : Pk w g gs 3 3 [40]) : Calls Try.prog 14 #[.pointer (some ⟨g, 0, none⟩), .int .i64 (-1)] w fun e w' => e = .returned (.int .u64 0) ∧ w = w' :=
  get_out h (-1) (by decide)
theorem first_from {w : World} {b : Nat} (h : Src w b [512]) : Calls Try.prog 21 #[.int .i64 3, .int .i64 3, .slice (some ⟨b, 0, none⟩) 1 1] w fun e w' => e = .returned (.tuple #[.pointer none, .int .i64 10]) ∧ w = w' :=
  from_form 3 3 b 1 [512] (by decide) (by decide) (by decide) w h (by decide) (by decide)
theorem first_width0 (w : World) : Calls Try.prog 23 #[.int .u64 0] w fun e w' => e = .returned (.int .i64 1) ∧ w = w' := widthOf_any 0 (by decide) w
theorem first_width8 (w : World) : Calls Try.prog 23 #[.int .u64 8] w fun e w' => e = .returned (.int .i64 4) ∧ w = w' := widthOf_any 8 (by decide) w

set_option maxHeartbeats 800000 in
theorem first_any (w : World) : Calls Try.prog 9 #[] w fun e w' => e = .returned (.bool true) ∧ Below w.heap.size w w' := by
  go_enter Try.func9, Try.ntmps9
  go_wp2_with fail
  refine (first_new _).mono ?_
  rintro e w1 ⟨g, gs, rfl, hg, hgs, hp, hb⟩
  go_wp2_with fail
  refine (first_set hp).mono ?_
  rintro e w2 ⟨rfl, hp2, hg2⟩
  have hb2 : Below w.heap.size w w2 := hb.trans (below_of_grownBy hg2 hgs hb.size)
  clear hp hg2 hb
  go_wp2_with fail
  refine (first_set8 hp2).mono ?_
  rintro e w' ⟨rfl, rfl⟩
  go_wp2_with fail
  refine (first_set3 hp2).mono ?_
  rintro e w' ⟨rfl, rfl⟩
  go_wp2_with fail
  refine (first_words hp2).mono ?_
  rintro e w3 ⟨g3, rfl, hg3, hl3, hb3⟩
  have hp3 := hp2.below hb3 hp2.head.lt hp2.body.lt
  have hB3 : Below w.heap.size w w3 := hb2.trans (hb3.mono hb2.size)
  have hc3 := hl3.cell 0
  have hc3' : (w3.alloc (.cells #[.int .u64 512] 30)).cell? ⟨g3, 0, none⟩ = some (.int .u64 40) := (hl3.alloc _).cell 0
  have hp4 := hp3.alloc (.cells #[.int .u64 512] 30)
  have hB4 : Below w.heap.size w (w3.alloc (.cells #[.int .u64 512] 30)) := hB3.alloc hB3.size _
  clear hp2 hb3 hb2 hp3
  have HF := first_from (w := w3.alloc (.cells #[.int .u64 512] 30)) (b := w3.heap.size) (Src.of_lies (lies_new w3 30 (wcells [512])))
  generalize hw4 : w3.alloc (.cells #[.int .u64 512] 30) = w4 at hc3' hp4 hB4 HF
  have HW := Lib.hid hw4
  have HF4 := Lib.hid HF
  clear hw4 HF
  go_wp2_with fail
  rw [HW.out]
  refine HF4.out.mono ?_
  rintro e w' ⟨rfl, rfl⟩
  go_wp2_with fail
  refine (first_get hp4).mono ?_
  rintro e w' ⟨rfl, rfl⟩
  go_wp2_with fail
  refine (first_getm hp4).mono ?_
  rintro e w' ⟨rfl, rfl⟩
  go_wp2_with fail
  refine (first_width0 _).mono ?_
  rintro e w' ⟨rfl, rfl⟩
  go_wp2_with fail
  refine (first_width8 _).mono ?_
  rintro e w' ⟨rfl, rfl⟩
  go_wp2
  go_ret
  exact ⟨rfl, hB4⟩

/-- a width out of any int. -/
theorem width_num (a : Int) : ∃ k : Nat, wrap64 (1 + wrap64 ((IntKind.u64.wrap a).tmod 64)) = (k : Int) ∧ 1 ≤ k ∧ k ≤ 64 := by
  rw [IntKind.wrap_u64, tmod_of_emod]
  unfold wrap64
  refine ⟨(1 + (a % 18446744073709551616) % 64).toNat, ?_, ?_, ?_⟩ <;> omega
theorem cut_lt {V k : Nat} (hV : V < 2 ^ 64) (hk : k ≤ 64) : V / 2 ^ (64 - k) < 2 ^ k := by
  rw [Nat.div_lt_iff_lt_mul (Nat.two_pow_pos _), ← Nat.pow_add]
  have e : k + (64 - k) = 64 := by omega
  rw [e]
  exact hV

end Go.Proofs.Ytlpoingajmogkaa
