/- slices.Backward over ints: what it hands over, told by number, read when it is come to. -/
import Derived.Test.YtpcdbmkmpphhiaaRange
import Derived.Test.YtpcdbmkmpphhiaaSaMem
namespace Go.Proofs.Ytpcdbmkmpphhiaa
open Go.RowKit Go.Shelf

attribute [local go_sem] Oper.semAt_some

/-- nothing has turned but the count of draws. -/
structure Still (A A' : World) : Prop where
  heap : A'.heap = A.heap
  os : A'.os = A.os
  tape : A'.tape = A.tape
  output : A'.output = A.output
theorem Still.below {A A' : World} (h : Still A A') (B : Nat) : Below B A A' := ⟨h.os, h.tape, h.output, by rw [h.heap]; exact Nat.le_refl _, fun k _ => by rw [h.heap]⟩
theorem Still.cell {A A' : World} (h : Still A A') (p : Addr) : A'.cell? p = A.cell? p := World.cell?_of_block (by rw [h.heap])
theorem still_drew (w : World) : Still w w.drew := ⟨rfl, rfl, rfl, rfl⟩
/-- all cells of a slice hold ints. -/
def IntsAt (w : World) (A : Option Addr) (n : Nat) : Prop := ∀ j, j < n → ∃ (ad : Addr) (v : Int), A = some ad ∧ w.cell? (ad.add j) = some (.int .i64 v)
/-- the i-th one from behind: its place, what lies there. -/
def BackOk (A : Option Addr) (n i : Nat) (x : Nat × Int) (w : World) : Prop := x.1 + i + 1 = n ∧ ∃ ad : Addr, A = some ad ∧ w.cell? (ad.add x.1) = some (.int .i64 x.2)

set_option maxRecDepth 100000 in
theorem backward_any (A : Option Addr) (n c : Nat) (w : World) :
    Calls Try.prog 33 #[.slice A n c] w fun e w' => e = .returned (.func (.func 47) #[] #[.pointer (some ⟨w.heap.size, 0, none⟩)]) ∧ w' = w.alloc (.cells #[.slice A n c] 22) := by
  go_enter Try.func33, Try.ntmps33
  go_wp2_with fail
  go_ret
  exact ⟨rfl, rfl⟩

set_option maxRecDepth 100000 in
set_option maxHeartbeats 1600000 in
theorem backward_gives (A : Option Addr) (n c b1 : Nat) (w : World) (hn : n ≤ 4194304) (h1 : b1 < w.heap.size) (c1 : w.cell? ⟨b1, 0, none⟩ = some (.slice A n c)) (hI : IntsAt w A n) :
    Gives Try.prog 47 #[.pointer (some ⟨b1, 0, none⟩)] (fun x : Nat × Int => #[.int .i64 (x.1 : Int), .int .i64 x.2]) (BackOk A n) n Still
      (fun A1 A2 => A2.heap[b1]? = A1.heap[b1]? ∧ (IntsAt A1 A n → IntsAt A2 A n)) w := by
  intro l J Jx W hW _ hJ hJx hY h0
  have C1 := (hW.cell (p := ⟨b1, 0, none⟩) h1).trans c1
  have HI : Hid (IntsAt W A n) := Lib.hid fun j hj => by
    obtain ⟨ad, v, e, hc⟩ := hI j hj
    have hlt := cell_in hc
    exact ⟨ad, v, e, (hW.cell hlt).trans hc⟩
  have HY := Lib.hid hY
  have HJ := Lib.hid hJ
  have HJx := Lib.hid hJx
  have hz : IntKind.i64.wrap ((n : Int) - 1) = (n : Int) - 1 := IntWalk.i64_in _ (by omega)
  clear hY hJ hJx c1 hW h1 hI
  refine (callsIn_wide (n := 0)).1 ?_
  refine callsIn_of_wp Try.func47 rfl trivial ?_ rfl
  simp only [Try.ntmps47, List.size_toArray, List.length_cons, List.length_nil, Nat.reduceAdd, Nat.reduceSub, Array.replicate_succ, Array.replicate_zero, List.push_toArray, List.append_toArray, List.nil_append, List.cons_append]
  gi_wp2
  gi_loopw [3] (fun i wr => ∃ (m : Nat) (z : Int), m ≤ n ∧ z + 1 = (m : Int) ∧ i = .int .i64 z ∧ Hid (J (n - m) wr) ∧ wr.cell? ⟨b1, 0, none⟩ = some (.slice A n c) ∧ Hid (IntsAt wr A n)) (fun i _ => (intOf i + 1).toNat)
  case atStart => exact ⟨n, (n : Int) - 1, Nat.le_refl _, by omega, rfl, Lib.hid (by rw [Nat.sub_self]; exact h0), C1, HI⟩
  case round =>
    clear C1 HI
    obtain ⟨m, z, hm, hzm, rfl, hJs, C1, HIs⟩ := hrel
    rcases m with _ | q
    · obtain rfl : z = -1 := by omega
      gi_wp2
      go_end0
      exact ⟨⟨_, rfl⟩, .inl hJs.out⟩
    · obtain rfl : z = (q : Int) := by omega
      have hge : decide ((0 : Int) ≤ (q : Int)) = true := by simp
      have hqn : (q : Int) < (n : Int) := by omega
      obtain ⟨ad, v, rfl, hc⟩ := HIs.out q (by omega)
      have hw : IntKind.i64.wrap ((q : Int) - 1) = (q : Int) - 1 := IntWalk.i64_in _ (by omega)
      have hy0 := HY.out (n - (q + 1)) (q, v) wr (by omega) ⟨by show q + (n - (q + 1)) + 1 = n; omega, ad, rfl, hc⟩ hJs.out
      rw [show n - (q + 1) + 1 = n - q by omega] at hy0
      obtain ⟨fn, tmps, assign, body, hy, hR⟩ := hy0
      clear hzm hJs
      gi_wp2
      refine ⟨rfl, hR.mono ?_⟩
      rintro e W3 (⟨rfl, hJ3, hk1, hk2⟩ | ⟨rfl, hJx3, _⟩)
      · have C13 : W3.cell? ⟨b1, 0, none⟩ = some (.slice (some ad) n c) := (World.cell?_of_block (w := wr) (a := ⟨b1, 0, none⟩) hk1).trans C1
        have HJ3 := Lib.hid hJ3
        have HI3 := Lib.hid (hk2 HIs.out)
        clear hk1 hk2 hJ3 hy hR HIs
        gi_wp2
        go_roundw
        case rel => exact ⟨q, (q : Int) - 1, by omega, by omega, rfl, HJ3, C13, HI3⟩
        case measure => simp [intOf]
      · gi_wp2
        refine bodyPost_ret (results_none rfl _ _ _) rfl ?_
        exact ⟨⟨_, rfl⟩, .inr hJx3⟩
end Go.Proofs.Ytpcdbmkmpphhiaa
