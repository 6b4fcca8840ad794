/- slices.Backward over ints: what it hands over, told by number, read when it is come to. The developers' suffix.laid: the memory that its closures write; the two closures. The library's own contracts of slices.Sort, slices.BinarySearch, slices.Equal, slices.Clone at ints and of bits.Mul, laid at this program; a copy of ints into a row of the call's own; slices.Repeat. A range over slices.Backward whose rounds all end as they should: the law. -/
import Derived.Test.YtlcgigiphlmjpaaRange
import Derived.Test.YtlcgigiphlmjpaaSaParts
import Derived.StillTailTactics
import Derived.Shelf.Sort.Plain
import Derived.Shelf.Slices.In.SortNone
import Derived.Shelf.Bits.Mul64
import Derived.Shelf.Slices.Equal
import Derived.Shelf.Slices.Empties2
import Derived.Shelf.Slices.Clone
import Derived.Shelf.Slices.SearchI
import Derived.Laws.CopyOwn
namespace Go.Proofs.Ytlcgigiphlmjpaa
open Go.RowKit Go.Shelf

attribute [local go_sem] Oper.semAt_some

/-- nothing has turned but the count of draws. -/
structure Still (A A' : World) : Prop where
  heap : A'.heap = A.heap
  os : A'.os = A.os
  tape : A'.tape = A.tape
  output : A'.output = A.output
theorem Still.below {A A' : World} (h : Still A A') (B : Nat) : Below B A A' := ⟨h.os, h.tape, h.output, by rw [h.heap]; exact Nat.le_refl _, fun k _ => by rw [h.heap]⟩
theorem Still.cell {A A' : World} (h : Still A A') (p : Addr) : A'.cell? p = A.cell? p := World.cell?_of_block (by rw [h.heap])
theorem still_drew (w : World) : Still w w.drew := ⟨rfl, rfl, rfl, rfl⟩
/-- all cells of a slice hold ints. -/
def IntsAt (w : World) (A : Option Addr) (n : Nat) : Prop := ∀ j, j < n → ∃ (ad : Addr) (v : Int), A = some ad ∧ w.cell? (ad.add j) = some (.int .i64 v)
/-- the i-th one from behind: its place, what lies there. -/
def BackOk (A : Option Addr) (n i : Nat) (x : Nat × Int) (w : World) : Prop := x.1 + i + 1 = n ∧ ∃ ad : Addr, A = some ad ∧ w.cell? (ad.add x.1) = some (.int .i64 x.2)

set_option maxRecDepth 100000 in
theorem backward_any (A : Option Addr) (n c : Nat) (w : World) :
    Calls Try.prog 52 #[.slice A n c] w fun e w' => e = .returned (.func (.func 61) #[] #[.pointer (some ⟨w.heap.size, 0, none⟩)]) ∧ w' = w.alloc (.cells #[.slice A n c] 22) := by
  go_enter Try.func52, Try.ntmps52
  go_wp2_with fail
  go_ret
  exact ⟨rfl, rfl⟩

set_option maxRecDepth 100000 in
set_option maxHeartbeats 1600000 in
theorem backward_gives (A : Option Addr) (n c b1 : Nat) (w : World) (hn : n ≤ 4194304) (h1 : b1 < w.heap.size) (c1 : w.cell? ⟨b1, 0, none⟩ = some (.slice A n c)) (hI : IntsAt w A n) :
    Gives Try.prog 61 #[.pointer (some ⟨b1, 0, none⟩)] (fun x : Nat × Int => #[.int .i64 (x.1 : Int), .int .i64 x.2]) (BackOk A n) n Still
      (fun A1 A2 => A2.heap[b1]? = A1.heap[b1]? ∧ (IntsAt A1 A n → IntsAt A2 A n)) w := by
  intro l J Jx W hW _ hJ hJx hY h0
  have C1 := (hW.cell (p := ⟨b1, 0, none⟩) h1).trans c1
  have HI : Hid (IntsAt W A n) := Lib.hid fun j hj => by
    obtain ⟨ad, v, e, hc⟩ := hI j hj
    have hlt := cell_in hc
    exact ⟨ad, v, e, (hW.cell hlt).trans hc⟩
  have HY := Lib.hid hY
  have HJ := Lib.hid hJ
  have HJx := Lib.hid hJx
  have hz : IntKind.i64.wrap ((n : Int) - 1) = (n : Int) - 1 := IntWalk.i64_in _ (by omega)
  clear hY hJ hJx c1 hW h1 hI
  refine (callsIn_wide (n := 0)).1 ?_
  refine callsIn_of_wp Try.func61 rfl trivial ?_ rfl
  simp only [Try.ntmps61, List.size_toArray, List.length_cons, List.length_nil, Nat.reduceAdd, Nat.reduceSub, Array.replicate_succ, Array.replicate_zero, List.push_toArray, List.append_toArray, List.nil_append, List.cons_append]
  gi_wp2
  gi_loopw [3] (fun i wr => ∃ (m : Nat) (z : Int), m ≤ n ∧ z + 1 = (m : Int) ∧ i = .int .i64 z ∧ Hid (J (n - m) wr) ∧ wr.cell? ⟨b1, 0, none⟩ = some (.slice A n c) ∧ Hid (IntsAt wr A n)) (fun i _ => (intOf i + 1).toNat)
  case atStart => exact ⟨n, (n : Int) - 1, Nat.le_refl _, by omega, rfl, Lib.hid (by rw [Nat.sub_self]; exact h0), C1, HI⟩
  case round =>
    clear C1 HI
    obtain ⟨m, z, hm, hzm, rfl, hJs, C1, HIs⟩ := hrel
    rcases m with _ | q
    · obtain rfl : z = -1 := by omega
      gi_wp2
      go_end0
      exact ⟨⟨_, rfl⟩, .inl hJs.out⟩
    · obtain rfl : z = (q : Int) := by omega
      have hge : decide ((0 : Int) ≤ (q : Int)) = true := by simp
      have hqn : (q : Int) < (n : Int) := by omega
      obtain ⟨ad, v, rfl, hc⟩ := HIs.out q (by omega)
      have hw : IntKind.i64.wrap ((q : Int) - 1) = (q : Int) - 1 := IntWalk.i64_in _ (by omega)
      have hy0 := HY.out (n - (q + 1)) (q, v) wr (by omega) ⟨by show q + (n - (q + 1)) + 1 = n; omega, ad, rfl, hc⟩ hJs.out
      rw [show n - (q + 1) + 1 = n - q by omega] at hy0
      obtain ⟨fn, tmps, assign, body, hy, hR⟩ := hy0
      clear hzm hJs
      gi_wp2
      refine ⟨rfl, hR.mono ?_⟩
      rintro e W3 (⟨rfl, hJ3, hk1, hk2⟩ | ⟨rfl, hJx3, _⟩)
      · have C13 : W3.cell? ⟨b1, 0, none⟩ = some (.slice (some ad) n c) := (World.cell?_of_block (w := wr) (a := ⟨b1, 0, none⟩) hk1).trans C1
        have HJ3 := Lib.hid hJ3
        have HI3 := Lib.hid (hk2 HIs.out)
        clear hk1 hk2 hJ3 hy hR HIs
        gi_wp2
        go_roundw
        case rel => exact ⟨q, (q : Int) - 1, by omega, by omega, rfl, HJ3, C13, HI3⟩
        case measure => simp [intOf]
      · gi_wp2
        refine bodyPost_ret (results_none rfl _ _ _) rfl ?_
        exact ⟨⟨_, rfl⟩, .inr hJx3⟩
end Go.Proofs.Ytlcgigiphlmjpaa

namespace Go.Proofs.Ytlcgigiphlmjpaa
open Go.RowKit

/-- the ground on which places are laid: the row; the variables' cells; the list of places (block s); where the next one goes (block y). -/
structure Lg (w : World) (T : Nat) (A : Option Addr) (n c : Nat) (X : Nat → Nat) (b g e h : Nat) (b2 b5 b6 s y cs cy : Nat) (S N : Nat → Int) : Prop where
  row : Rw w T A n c X b g e h
  v2 : w.cell? ⟨b2, 0, none⟩ = some (.pointer (some ⟨g, 0, none⟩))
  v5 : w.cell? ⟨b5, 0, none⟩ = some (.slice (some ⟨s, 0, none⟩) n cs)
  v6 : w.cell? ⟨b6, 0, none⟩ = some (.slice (some ⟨y, 0, none⟩) b cy)
  sa : w.ownsRow T 3 1 (.slice (some ⟨s, 0, none⟩) n cs) n (icells S n)
  nx : w.ownsRow T 3 1 (.slice (some ⟨y, 0, none⟩) b cy) b (icells N b)
  ge : T ≤ b2 ∧ T ≤ b5 ∧ T ≤ b6 ∧ T ≤ s ∧ T ≤ y
  ne : s ≠ y ∧ s ≠ b2 ∧ s ≠ b5 ∧ s ≠ b6 ∧ y ≠ b2 ∧ y ≠ b5 ∧ y ≠ b6
section
variable {w w' : World} {T n c b g e h b2 b5 b6 s y cs cy : Nat} {A : Option Addr} {X : Nat → Nat} {S N : Nat → Int}
theorem Lg.sa_cell (l : Lg w T A n c X b g e h b2 b5 b6 s y cs cy S N) {k : Nat} (hk : k < n) : w.cell? ⟨s, k, none⟩ = some (.int .i64 (S k)) := by
  rw [l.sa.cellAt k (by omega)]
  exact icells_at S n k hk
theorem Lg.nx_cell (l : Lg w T A n c X b g e h b2 b5 b6 s y cs cy S N) {k : Nat} (hk : k < b) : w.cell? ⟨y, k, none⟩ = some (.int .i64 (N k)) := by
  rw [l.nx.cellAt k (by omega)]
  exact icells_at N b k hk
theorem Lg.put_sa (l : Lg w T A n c X b g e h b2 b5 b6 s y cs cy S N) (k : Nat) (x : Int) : Lg (w.setCell ⟨s, k, none⟩ (.int .i64 x)) T A n c X b g e h b2 b5 b6 s y cs cy (putI S k x) N := by
  obtain ⟨n1, n2, n3, n4, n5, n6, n7⟩ := l.ne
  have hb : Below T w (w.setCell ⟨s, k, none⟩ (.int .i64 x)) := (Below.refl T w).setCell (p := ⟨s, k, none⟩) l.ge.2.2.2.1 _
  have far : ∀ z, s ≠ z → (w.setCell ⟨s, k, none⟩ (.int .i64 x)).cell? ⟨z, 0, none⟩ = w.cell? ⟨z, 0, none⟩ := fun z hz => World.cell?_of_block (Below.heap_setCell w ⟨s, k, none⟩ _ z (fun e => hz e.symm))
  refine ⟨l.row.below hb (Nat.le_refl _), (far b2 n2).trans l.v2, (far b5 n3).trans l.v5, (far b6 n4).trans l.v6, ?_, owns_far l.nx (fun e => n1 (by injection e with e; exact e.symm)) _, l.ge, l.ne⟩
  have := owns_put l.sa k (.int .i64 x)
  rw [icells_put] at this
  exact this
theorem Lg.put_nx (l : Lg w T A n c X b g e h b2 b5 b6 s y cs cy S N) (k : Nat) (x : Int) : Lg (w.setCell ⟨y, k, none⟩ (.int .i64 x)) T A n c X b g e h b2 b5 b6 s y cs cy S (putI N k x) := by
  obtain ⟨n1, n2, n3, n4, n5, n6, n7⟩ := l.ne
  have hb : Below T w (w.setCell ⟨y, k, none⟩ (.int .i64 x)) := (Below.refl T w).setCell (p := ⟨y, k, none⟩) l.ge.2.2.2.2 _
  have far : ∀ z, y ≠ z → (w.setCell ⟨y, k, none⟩ (.int .i64 x)).cell? ⟨z, 0, none⟩ = w.cell? ⟨z, 0, none⟩ := fun z hz => World.cell?_of_block (Below.heap_setCell w ⟨y, k, none⟩ _ z (fun e => hz e.symm))
  refine ⟨l.row.below hb (Nat.le_refl _), (far b2 n5).trans l.v2, (far b5 n6).trans l.v5, (far b6 n7).trans l.v6, owns_far l.sa (fun e => n1 (by injection e)) _, ?_, l.ge, l.ne⟩
  have := owns_put l.nx k (.int .i64 x)
  rw [icells_put] at this
  exact this
theorem Lg.drew (l : Lg w T A n c X b g e h b2 b5 b6 s y cs cy S N) : Lg w.drew T A n c X b g e h b2 b5 b6 s y cs cy S N :=
  ⟨l.row.below ((Below.refl T w).drew) (Nat.le_refl _), l.v2, l.v5, l.v6, l.sa, l.nx, l.ge, l.ne⟩

theorem off_drew (p : Nat → Prop) (w : World) : Off p w w.drew := ⟨rfl, rfl, rfl, Nat.le_refl _, fun _ _ _ => rfl⟩
theorem two_off {k x0 : Nat} (x x' : Value) : Off (fun q => q ≠ s ∧ q ≠ y) w (((w.setCell ⟨y, x0, none⟩ x).drew.setCell ⟨s, k, none⟩ x').drew) := by
  have h1 : Off (fun q => q ≠ s ∧ q ≠ y) w (w.setCell ⟨y, x0, none⟩ x) := Off.setCell (fun hq => hq.2 rfl) x
  have h2 : Off (fun q => q ≠ s ∧ q ≠ y) (w.setCell ⟨y, x0, none⟩ x).drew ((w.setCell ⟨y, x0, none⟩ x).drew.setCell ⟨s, k, none⟩ x') := Off.setCell (fun hq => hq.1 rfl) x'
  exact ((h1.trans (off_drew _ _)).trans h2).trans (off_drew _ _)
theorem two_off' {k x0 : Nat} (x x' : Value) : Off (fun q => q ≠ s ∧ q ≠ y) w (((w.setCell ⟨s, k, none⟩ x').drew.setCell ⟨y, x0, none⟩ x).drew) := by
  have h1 : Off (fun q => q ≠ s ∧ q ≠ y) w (w.setCell ⟨s, k, none⟩ x') := Off.setCell (fun hq => hq.1 rfl) x'
  have h2 : Off (fun q => q ≠ s ∧ q ≠ y) (w.setCell ⟨s, k, none⟩ x').drew ((w.setCell ⟨s, k, none⟩ x').drew.setCell ⟨y, x0, none⟩ x) := Off.setCell (fun hq => hq.2 rfl) x
  exact ((h1.trans (off_drew _ _)).trans h2).trans (off_drew _ _)

set_option maxRecDepth 100000 in
set_option maxHeartbeats 800000 in
theorem laid1_any (l : Lg w T A n c X b g e h b2 b5 b6 s y cs cy S N) {p k : Nat} (hp : p < n) (hk : k < n) (hN : N (X p) = ((k + 1 : Nat) : Int)) :
    Calls Try.prog 55 #[.int .i64 (p : Int), .pointer (some ⟨b6, 0, none⟩), .pointer (some ⟨b2, 0, none⟩), .pointer (some ⟨b5, 0, none⟩)] w fun e' w' => e' = .returned (.tuple #[]) ∧
      Lg w' T A n c X b g e h b2 b5 b6 s y cs cy (putI S k (p : Int)) (putI N (X p) (k : Int)) ∧ Off (fun q => q ≠ s ∧ q ≠ y) w w' := by
  have hx := l.row.right p hp
  have hn := l.row.small.2.1
  have hL1 := Lib.hid ((l.put_nx (X p) (k : Int)).drew)
  have hL2 := Lib.hid ((((l.put_nx (X p) (k : Int)).drew).put_sa k (p : Int)).drew)
  obtain ⟨ad, rfl, _, ct0, _⟩ := l.row.t p hp
  have ct : w.cell? (ad.add p) = some (.int .i64 ((X p : Nat) : Int)) := ct0
  clear ct0
  have cn := l.nx_cell hx
  rw [hN] at cn
  have fn := owns_free l.nx (X p)
  have hO : ∀ x x' : Value, Off (fun q => q ≠ s ∧ q ≠ y) w (((w.setCell ⟨y, X p, none⟩ x).drew.setCell ⟨s, k, none⟩ x').drew) := fun x x' => two_off x x'
  have HO := Lib.hid hO
  have v2 := l.v2
  have v5 := l.v5
  have v6 := l.v6
  have c0 := l.row.c0
  have L1 := hL1.out
  clear hL1
  obtain ⟨w1, hw1⟩ : ∃ w1, (w.setCell ⟨y, X p, none⟩ (.int .i64 (k : Int))).drew = w1 := ⟨_, rfl⟩
  have HW1 := Lib.hid hw1
  rw [hw1] at L1 hL2
  obtain ⟨ad', e', _, ct2, _⟩ := L1.row.t p hp
  obtain rfl : ad = ad' := by injection e'
  have ct1 : w1.cell? (ad.add p) = some (.int .i64 ((X p : Nat) : Int)) := ct2
  clear ct2
  have cn1 := L1.nx_cell hx
  rw [putI_at] at cn1
  have cs1 := L1.sa_cell hk
  have fs1 := owns_free L1.sa k
  have w2 := L1.v2
  have w5 := L1.v5
  have w6 := L1.v6
  have d0 := L1.row.c0
  have hw : IntKind.i64.wrap (((k + 1 : Nat) : Int) - 1) = (k : Int) := by rw [IntWalk.i64_in _ (by omega)]; omega
  have hxb : ((X p : Nat) : Int) < (b : Int) := by omega
  have hpn : (p : Int) < (n : Int) := by omega
  have hkn : (k : Int) < (n : Int) := by omega
  obtain ⟨k1, hk1⟩ : ∃ k1, k + 1 = k1 := ⟨_, rfl⟩
  rw [hk1] at hw cn
  obtain ⟨sv, hsv⟩ : ∃ sv, S k = sv := ⟨_, rfl⟩
  rw [hsv] at cs1
  clear hw1 l L1 e' hN hk1 hsv hn hO hx
  go_enter Try.func55, Try.ntmps55
  go_wp2_with fail
  go_still_tail 12, (by kernel_rfl)
  go_wp2_with fail
  rw [HW1.out]
  go_still_tail 13, (by kernel_rfl)
  go_wp2_with fail
  go_end0
  refine ⟨rfl, hL2.out, ?_⟩
  rw [← HW1.out]
  exact HO.out _ _
set_option maxRecDepth 100000 in
set_option maxHeartbeats 800000 in
theorem laid2_any (l : Lg w T A n c X b g e h b2 b5 b6 s y cs cy S N) {p k : Nat} (hp : p < n) (hk : k < n) (hN : N (X p) = (k : Int)) :
    Calls Try.prog 56 #[.int .i64 (p : Int), .pointer (some ⟨b5, 0, none⟩), .pointer (some ⟨b6, 0, none⟩), .pointer (some ⟨b2, 0, none⟩)] w fun e' w' => e' = .returned (.tuple #[]) ∧
      Lg w' T A n c X b g e h b2 b5 b6 s y cs cy (putI S k (p : Int)) (putI N (X p) ((k + 1 : Nat) : Int)) ∧ Off (fun q => q ≠ s ∧ q ≠ y) w w' := by
  have hx := l.row.right p hp
  have hn := l.row.small.2.1
  have hL1 := Lib.hid ((l.put_sa k (p : Int)).drew)
  have hL2 := Lib.hid ((((l.put_sa k (p : Int)).drew).put_nx (X p) ((k + 1 : Nat) : Int)).drew)
  obtain ⟨ad, rfl, _, ct0, _⟩ := l.row.t p hp
  have ct : w.cell? (ad.add p) = some (.int .i64 ((X p : Nat) : Int)) := ct0
  clear ct0
  have cn := l.nx_cell hx
  rw [hN] at cn
  have fs := owns_free l.sa k
  have cs0 := l.sa_cell hk
  have hO : ∀ x x' : Value, Off (fun q => q ≠ s ∧ q ≠ y) w (((w.setCell ⟨s, k, none⟩ x').drew.setCell ⟨y, X p, none⟩ x).drew) := fun x x' => two_off' x x'
  have HO := Lib.hid hO
  have v2 := l.v2
  have v5 := l.v5
  have v6 := l.v6
  have c0 := l.row.c0
  have L1 := hL1.out
  clear hL1
  obtain ⟨w1, hw1⟩ : ∃ w1, (w.setCell ⟨s, k, none⟩ (.int .i64 (p : Int))).drew = w1 := ⟨_, rfl⟩
  have HW1 := Lib.hid hw1
  rw [hw1] at L1 hL2
  obtain ⟨ad', e', _, ct2, _⟩ := L1.row.t p hp
  obtain rfl : ad = ad' := by injection e'
  have ct1 : w1.cell? (ad.add p) = some (.int .i64 ((X p : Nat) : Int)) := ct2
  clear ct2
  have cn1 := L1.nx_cell hx
  rw [hN] at cn1
  have fn1 := owns_free L1.nx (X p)
  have w2 := L1.v2
  have w5 := L1.v5
  have w6 := L1.v6
  have d0 := L1.row.c0
  have hw : IntKind.i64.wrap ((k : Int) + 1) = ((k + 1 : Nat) : Int) := by rw [IntWalk.i64_in _ (by omega)]; omega
  have hxb : ((X p : Nat) : Int) < (b : Int) := by omega
  have hpn : (p : Int) < (n : Int) := by omega
  have hkn : (k : Int) < (n : Int) := by omega
  obtain ⟨k1, hk1⟩ : ∃ k1, k + 1 = k1 := ⟨_, rfl⟩
  rw [hk1] at hw hL2
  obtain ⟨sv, hsv⟩ : ∃ sv, S k = sv := ⟨_, rfl⟩
  rw [hsv] at cs0
  clear hw1 l L1 e' hN hsv hn hO hx
  go_enter Try.func56, Try.ntmps56
  go_wp2_with fail
  go_still_tail 13, (by kernel_rfl)
  go_wp2_with fail
  rw [HW1.out]
  go_still_tail 12, (by kernel_rfl)
  go_wp2_with fail
  go_end0
  rw [hk1]
  refine ⟨rfl, hL2.out, ?_⟩
  rw [← HW1.out]
  exact HO.out _ _
end
end Go.Proofs.Ytlcgigiphlmjpaa

namespace Go.Proofs.Ytlcgigiphlmjpaa
open Go.RowKit
open Go.Shelf

def sortLays_ren : Go.Shelf.Ren := ⟨fun | 189 => 46 | 125 => 37 | 257 => 59 | 128 => 50 | 129 => 51 | 294 => 63 | 295 => 64 | 296 => 65 | 297 => 66 | 298 => 67 | 299 => 68 | 216 => 48 | 300 => 69 | 301 => 70 | 328 => 71 | 329 => 72 | 330 => 73 | 331 => 74 | 332 => 75 | 215 => 60 | 343 => 76 | n => n, fun | 28 => 22 | 3 => 3 | 46 => 33 | 0 => 0 | 51 => 56 | 53 => 59 | 4 => 4 | 183 => 83 | 182 => 82 | 131 => 53 | 5 => 5 | 9 => 9 | 218 => 87 | 222 => 91 | 228 => 93 | 229 => 94 | n => n, fun | n => n⟩
theorem sortLays : Go.Proofs.Lays.n189 Try.prog sortLays_ren := {
  mixed := by kernel_rfl
  f125 := Try.func37.trans (congrArg some (by kernel_rfl))
  f128 := Try.func50.trans (congrArg some (by kernel_rfl))
  f129 := Try.func51.trans (congrArg some (by kernel_rfl))
  f189 := Try.func46.trans (congrArg some (by kernel_rfl))
  f215 := Try.func60.trans (congrArg some (by kernel_rfl))
  f216 := Try.func48.trans (congrArg some (by kernel_rfl))
  f257 := Try.func59.trans (congrArg some (by kernel_rfl))
  f294 := Try.func63.trans (congrArg some (by kernel_rfl))
  f295 := Try.func64.trans (congrArg some (by kernel_rfl))
  f296 := Try.func65.trans (congrArg some (by kernel_rfl))
  f297 := Try.func66.trans (congrArg some (by kernel_rfl))
  f298 := Try.func67.trans (congrArg some (by kernel_rfl))
  f299 := Try.func68.trans (congrArg some (by kernel_rfl))
  f300 := Try.func69.trans (congrArg some (by kernel_rfl))
  f301 := Try.func70.trans (congrArg some (by kernel_rfl))
  f328 := Try.func71.trans (congrArg some (by kernel_rfl))
  f329 := Try.func72.trans (congrArg some (by kernel_rfl))
  f330 := Try.func73.trans (congrArg some (by kernel_rfl))
  f331 := Try.func74.trans (congrArg some (by kernel_rfl))
  f332 := Try.func75.trans (congrArg some (by kernel_rfl))
  f343 := Try.func76.trans (congrArg some (by kernel_rfl))
  t0 := Try.underlying0
  a0 := Try.isAgg0
  z0 := Try.sizeOf0
  v0 := Try.zeroValue0
  t3 := Try.underlying3
  a3 := Try.isAgg3
  z3 := Try.sizeOf3
  v3 := Try.zeroValue3
  t4 := Try.underlying4
  a4 := Try.isAgg4
  z4 := Try.sizeOf4
  v4 := Try.zeroValue4
  t5 := Try.underlying5
  a5 := Try.isAgg5
  z5 := Try.sizeOf5
  v5 := Try.zeroValue5
  t9 := Try.underlying9
  a9 := Try.isAgg9
  z9 := Try.sizeOf9
  v9 := Try.zeroValue9
  t28 := Try.underlying22
  a28 := Try.isAgg22
  z28 := Try.sizeOf22
  v28 := Try.zeroValue22
  t46 := Try.underlying33
  a46 := Try.isAgg33
  z46 := Try.sizeOf33
  v46 := Try.zeroValue33
  t51 := Try.underlying56
  a51 := Try.isAgg56
  z51 := Try.sizeOf56
  v51 := Try.zeroValue56
  t53 := Try.underlying59
  a53 := Try.isAgg59
  z53 := Try.sizeOf59
  v53 := Try.zeroValue59
  t131 := Try.underlying53
  a131 := Try.isAgg53
  z131 := Try.sizeOf53
  v131 := Try.zeroValue53
  t182 := Try.underlying82
  a182 := Try.isAgg82
  z182 := Try.sizeOf82
  v182 := Try.zeroValue82
  t183 := Try.underlying83
  a183 := Try.isAgg83
  z183 := Try.sizeOf83
  v183 := Try.zeroValue83
  t218 := Try.underlying87
  a218 := Try.isAgg87
  z218 := Try.sizeOf87
  v218 := Try.zeroValue87
  t222 := Try.underlying91
  a222 := Try.isAgg91
  z222 := Try.sizeOf91
  v222 := Try.zeroValue91
  t228 := Try.underlying93
  a228 := Try.isAgg93
  z228 := Try.sizeOf93
  v228 := Try.zeroValue93
  t229 := Try.underlying94
  a229 := Try.isAgg94
  z229 := Try.sizeOf94
  v229 := Try.zeroValue94 }
def mulLays_ren : Go.Shelf.Ren := ⟨fun | 212 => 30 | 263 => 38 | 264 => 39 | n => n, fun | 46 => 33 | 51 => 56 | 146 => 57 | 53 => 59 | 148 => 60 | n => n, fun | n => n⟩
theorem mulLays : Go.Proofs.Lays.n212 Try.prog mulLays_ren := {
  mixed := by kernel_rfl
  f212 := Try.func30.trans (congrArg some (by kernel_rfl))
  f263 := Try.func38.trans (congrArg some (by kernel_rfl))
  f264 := Try.func39.trans (congrArg some (by kernel_rfl))
  t46 := Try.underlying33
  a46 := Try.isAgg33
  z46 := Try.sizeOf33
  v46 := Try.zeroValue33
  t51 := Try.underlying56
  a51 := Try.isAgg56
  z51 := Try.sizeOf56
  v51 := Try.zeroValue56
  t53 := Try.underlying59
  a53 := Try.isAgg59
  z53 := Try.sizeOf59
  v53 := Try.zeroValue59
  t146 := Try.underlying57
  a146 := Try.isAgg57
  z146 := Try.sizeOf57
  v146 := Try.zeroValue57
  t148 := Try.underlying60
  a148 := Try.isAgg60
  z148 := Try.sizeOf60
  v148 := Try.zeroValue60 }
def equalLays_ren : Go.Shelf.Ren := ⟨fun | 111 => 62 | n => n, fun | 28 => 22 | 3 => 3 | 4 => 4 | 0 => 0 | n => n, fun | n => n⟩
theorem equalLays : Go.Proofs.Lays.n111 Try.prog equalLays_ren := {
  mixed := by kernel_rfl
  f111 := Try.func62.trans (congrArg some (by kernel_rfl))
  t0 := Try.underlying0
  a0 := Try.isAgg0
  z0 := Try.sizeOf0
  v0 := Try.zeroValue0
  t3 := Try.underlying3
  a3 := Try.isAgg3
  z3 := Try.sizeOf3
  v3 := Try.zeroValue3
  t4 := Try.underlying4
  a4 := Try.isAgg4
  z4 := Try.sizeOf4
  v4 := Try.zeroValue4
  t28 := Try.underlying22
  a28 := Try.isAgg22
  z28 := Try.sizeOf22
  v28 := Try.zeroValue22 }
def cloneLays_ren : Go.Shelf.Ren := ⟨fun | 15 => 54 | n => n, fun | 22 => 22 | 3 => 3 | 4 => 4 | n => n, fun | n => n⟩
theorem cloneLays : Go.Proofs.Lays2.n15 Try.prog cloneLays_ren := {
  mixed := by kernel_rfl
  f15 := Try.func54.trans (congrArg some (by kernel_rfl))
  t3 := Try.underlying3
  a3 := Try.isAgg3
  z3 := Try.sizeOf3
  v3 := Try.zeroValue3
  t4 := Try.underlying4
  a4 := Try.isAgg4
  z4 := Try.sizeOf4
  v4 := Try.zeroValue4
  t22 := Try.underlying22
  a22 := Try.isAgg22
  z22 := Try.sizeOf22
  v22 := Try.zeroValue22
  i3 := by kernel_rfl }
def searchLays_ren : Go.Shelf.Ren := ⟨fun | 25 => 36 | 31 => 48 | 32 => 49 | 37 => 60 | n => n, fun | 22 => 22 | 3 => 3 | 4 => 4 | 40 => 33 | 0 => 0 | n => n, fun | n => n⟩
theorem searchLays : Go.Proofs.Lays2.n25 Try.prog searchLays_ren := {
  mixed := by kernel_rfl
  f25 := Try.func36.trans (congrArg some (by kernel_rfl))
  f31 := Try.func48.trans (congrArg some (by kernel_rfl))
  f32 := Try.func49.trans (congrArg some (by kernel_rfl))
  f37 := Try.func60.trans (congrArg some (by kernel_rfl))
  t0 := Try.underlying0
  a0 := Try.isAgg0
  z0 := Try.sizeOf0
  v0 := Try.zeroValue0
  t3 := Try.underlying3
  a3 := Try.isAgg3
  z3 := Try.sizeOf3
  v3 := Try.zeroValue3
  t4 := Try.underlying4
  a4 := Try.isAgg4
  z4 := Try.sizeOf4
  v4 := Try.zeroValue4
  t22 := Try.underlying22
  a22 := Try.isAgg22
  z22 := Try.sizeOf22
  v22 := Try.zeroValue22
  t40 := Try.underlying33
  a40 := Try.isAgg33
  z40 := Try.sizeOf33
  v40 := Try.zeroValue33 }

/-- ints of which m from place o on are others. -/
def overI (U : Nat → Int) (o m : Nat) (V : Nat → Int) : Nat → Int := fun k => if o ≤ k ∧ k < o + m then V (k - o) else U k
theorem overI_cells (U V : Nat → Int) (n o m : Nat) (h : o + m ≤ n) : (icells U n).take o ++ (icells V m ++ (icells U n).drop (o + m)) = icells (overI U o m V) n := by
  apply List.ext_getElem?
  intro k
  by_cases hk : k < n
  · rw [icells_at _ _ _ hk]
    unfold overI
    by_cases h1 : k < o
    · rw [List.getElem?_append_left (by rw [List.length_take, icells_length]; omega), List.getElem?_take, if_pos h1, icells_at _ _ _ hk, if_neg (by omega)]
    · have hl : (List.take o (icells U n)).length = o := by rw [List.length_take, icells_length]; omega
      rw [List.getElem?_append_right (by omega), hl]
      by_cases h2 : k < o + m
      · rw [List.getElem?_append_left (by rw [icells_length]; omega), icells_at _ _ _ (by omega), if_pos ⟨by omega, h2⟩]
      · rw [List.getElem?_append_right (by rw [icells_length]; omega), icells_length, List.getElem?_drop, show o + m + (k - o - m) = k by omega, icells_at _ _ _ hk, if_neg (by omega)]
  · rw [List.getElem?_eq_none (by simp [icells_length]; omega), List.getElem?_eq_none (by rw [icells_length]; omega)]
theorem size_i64b : (Try.prog.info? 3).map (·.size) = some 1 := by kernel_rfl
theorem off_setRow (g : Nat) (w : World) (cs : Array Value) : Off (fun q => q ≠ g) w (w.setRow g cs) := by
  refine ⟨rfl, rfl, rfl, by simp [World.setRow], fun k hk hne => ?_⟩
  simp only [World.setRow, Array.getElem?_modify]
  rw [if_neg (fun e => hne e.symm)]
/-- a copy of ints into a block that is known whole. -/
theorem int_copy {w : World} {g n o dm dc m c k : Nat} {U V : Nat → Int} {ad : Addr} (h : Lies w g 3 (icells U n)) (hk : k = Nat.min m dm) (ho : o + k ≤ n) (hs : ∀ j, j < k → w.cell? (ad.add j) = some (.int .i64 (V j))) :
    ∃ w2, (Builtin.copy_ #[22, 22] 3 #[.slice (some ⟨g, o, none⟩) dm dc, .slice (some ad) m c]).run Try.prog w = .ok (.int .i64 (k : Int)) w2 ∧ Lies w2 g 3 (icells (overI U o k V) n) ∧ Off (fun q => q ≠ g) w w2 := by
  have hrun := run_copy_row (P := Try.prog) w 22 22 3 3 g o dm dc ad m c (icells U n).toArray 3 (icells V k) Try.underlying22 size_i64b h (by rw [icells_length]; exact hk) (fun j v hj => by
    have hjm : j < k := by
      have := (List.getElem?_eq_some_iff.1 hj).1
      rw [icells_length] at this
      exact this
    rw [icells_at V k j hjm] at hj
    rw [← hj]
    exact hs j hjm) (by rw [icells_length]; simp [icells_length]; omega) (icells_one V k)
  rw [icells_length] at hrun
  refine ⟨_, hrun, ?_, off_setRow _ _ _⟩
  have := setRow_heap w g _ (List.take o (icells U n).toArray.toList ++ icells V k ++ List.drop (o + k) (icells U n).toArray.toList).toArray 3 (0, 0) h
  unfold Lies
  rw [this, ← overI_cells U V n o k ho, List.append_assoc]

set_option maxRecDepth 100000 in
set_option maxHeartbeats 800000 in
/-- slices.Repeat of one number. -/
theorem repeat_any (xb n cx : Nat) (x : Int) (w : World) (hn : n ≤ 4194304) (hx : Lies w xb 3 [.int .i64 x]) :
    Calls Try.prog 25 #[.slice (some ⟨xb, 0, none⟩) 1 cx, .int .i64 (n : Int)] w fun e w' => e = .returned (.slice (some ⟨w.heap.size, 0, none⟩) n n) ∧ Lies w' w.heap.size 3 (icells (fun _ => x) n) ∧ Off (fun q => q ≠ w.heap.size) w w' := by
  have hM := Any.bits_Mul mulLays 1 n (by decide) (by omega) w
  have e1 : 1 * n / 18446744073709551616 = 0 := by rw [Nat.one_mul]; exact Nat.div_eq_of_lt (by omega)
  have e2 : 1 * n % 18446744073709551616 = n := by rw [Nat.one_mul]; exact Nat.mod_eq_of_lt (by omega)
  rw [e1, e2] at hM
  have hM : Calls Try.prog 30 #[.int .u64 1, .int .u64 (n : Int)] w fun e w' => e = .returned (.tuple #[.int .u64 0, .int .u64 (n : Int)]) ∧ w' = w := hM
  have hMk := make_ints0 w n hn
  obtain ⟨w1, hw1⟩ : ∃ w1, w.alloc (.cells (icells (fun _ => 0) n).toArray 3) = w1 := ⟨_, rfl⟩
  have l0 : Lies w1 w.heap.size 3 (icells (fun _ => 0) n) := by rw [← hw1]; exact lies_new w 3 _
  have hO1 : Off (fun q => q ≠ w.heap.size) w w1 := by rw [← hw1]; exact Off.grown (World.grownBy_alloc w _ none) (fun k e => by cases e)
  have hxl := hx.lt
  have lx : Lies w1 xb 3 [.int .i64 x] := by rw [← hw1]; exact hx.alloc _
  obtain ⟨g, hg⟩ : ∃ g, w.heap.size = g := ⟨_, rfl⟩
  rw [hw1, hg] at hMk
  rw [hg] at l0 hO1 hxl ⊢
  obtain ⟨w2, hC, l2, hO2⟩ := int_copy (w := w1) (g := g) (n := n) (o := 0) (dm := n) (dc := n) (m := 1) (c := cx) (k := Nat.min 1 n) (V := fun _ => x) (ad := ⟨xb, 0, none⟩) l0 rfl (by rw [Nat.zero_add]; exact Nat.min_le_right _ _) (fun j hj => by
    have hj : j < 1 := Nat.lt_of_lt_of_le hj (Nat.min_le_left _ _)
    obtain rfl : j = 0 := by omega
    exact lx.cell 0)
  obtain ⟨k, hk⟩ : ∃ k, Nat.min 1 n = k := ⟨_, rfl⟩
  rw [hk] at hC l2
  have hk1 : k ≤ 1 ∧ k ≤ n ∧ (0 < n → k = 1) := by
    have h1 := Nat.min_le_left 1 n
    have h2 := Nat.min_le_right 1 n
    have h3 : 0 < n → Nat.min 1 n = 1 := fun h => Nat.min_eq_left h
    rw [hk] at h3
    have h1 : Nat.min 1 n ≤ 1 := h1
    have h2 : Nat.min 1 n ≤ n := h2
    omega
  have HO2 := Lib.hid (hO1.trans hO2)
  have HL2 : Hid (∃ U, Lies w2 g 3 (icells U n) ∧ ∀ j, j < k → U j = x) := Lib.hid ⟨_, l2, fun j hj => by unfold overI; rw [if_pos (by omega)]⟩
  have c1 : IntKind.u64.wrap (1 : Int) = 1 := by decide
  have c2 : IntKind.u64.wrap (n : Int) = (n : Int) := IntWalk.u64_in _ (by omega)
  have c3 : IntKind.i64.wrap (n : Int) = (n : Int) := IntWalk.i64_in _ (by omega)
  have d1 : ¬ (9223372036854775807 : Int) < (n : Int) := by omega
  clear hx l0 hO1 lx l2 hO2 hw1 e1 e2 hk
  go_enter Try.func25, Try.ntmps25
  go_wp2_with (go_at_call 30; (with_reducible refine hM.mono ?_); rintro e w' ⟨rfl, rfl⟩)
  go_loopw [8] (fun v wr => ∃ k : Nat, k ≤ n ∧ (0 < n → 0 < k) ∧ v = .int .i64 (k : Int) ∧ Hid (∃ U, Lies wr g 3 (icells U n) ∧ ∀ j, j < k → U j = x) ∧ Hid (Off (fun q => q ≠ g) w' wr)) (fun v _ => n - (intOf v).toNat)
  case atStart => exact ⟨k, hk1.2.1, fun h => by have := hk1.2.2 h; omega, rfl, HL2, HO2⟩
  case round =>
    obtain ⟨k, hk, h0, rfl, hL, hO⟩ := hrel
    by_cases hlt : k < n
    · have hltk : (k : Int) < (n : Int) := by omega
      have hk0 := h0 (by omega)
      have hne : n ≠ k := by omega
      have hle : (k : Int) ≤ (n : Int) := by omega
      obtain ⟨U, hU, hx⟩ := hL.out
      obtain ⟨q, hq⟩ : ∃ q, Nat.min k (n - k) = q := ⟨_, rfl⟩
      have hq1 : q ≤ k ∧ q ≤ n - k ∧ 0 < q := by
        have h1 : Nat.min k (n - k) ≤ k := Nat.min_le_left _ _
        have h2 : Nat.min k (n - k) ≤ n - k := Nat.min_le_right _ _
        have h3 : 0 < Nat.min k (n - k) := Nat.lt_min.2 ⟨hk0, by omega⟩
        omega
      obtain ⟨w3, hC3, l3, hO3⟩ := int_copy (w := wr.drew) (g := g) (n := n) (o := k) (dm := n - k) (dc := n - k) (m := k) (c := n) (k := q) (V := U) (ad := ⟨g, 0, none⟩) hU.drew hq.symm (by omega) (fun j hj => by
        rw [Addr.add_mid, Nat.zero_add, hU.drew.cell]
        exact icells_at U n j (by omega))
      have HL3 : Hid (∃ U', Lies w3 g 3 (icells U' n) ∧ ∀ j, j < k + q → U' j = x) := Lib.hid ⟨_, l3, fun j hj => by
        unfold overI
        split
        · exact hx _ (by omega)
        · exact hx _ (by omega)⟩
      have HO3 := Lib.hid ((hO.out.trans (off_drew _ _)).trans hO3)
      have hw : IntKind.i64.wrap ((k : Int) + (q : Int)) = ((k + q : Nat) : Int) := by rw [IntWalk.i64_in _ (by omega)]; omega
      clear hU hx hL hO l3 hO3 hq HL2 HO2
      go_wp2_with fail
      go_region
      go_wp2_with fail
      go_roundw
      case rel => exact ⟨k + q, by omega, fun _ => by omega, rfl, HL3, HO3⟩
      case measure => simp [intOf]; omega
    · obtain rfl : k = n := by omega
      obtain ⟨U, hU, hx⟩ := hL.out
      go_wp2_with fail
      go_ret
      refine ⟨rfl, ?_, hO.out⟩
      rw [icells_congr (U := fun _ => x) (U' := U) (fun j hj => (hx j hj).symm)]
      exact hU
end Go.Proofs.Ytlcgigiphlmjpaa

namespace Go.Proofs.Ytlcgigiphlmjpaa
open Go.RowKit

attribute [local go_sem] Oper.semAt_some

/-- what a round must leave as it was: the slice's cell, the loop's own two blocks; and the row's cells are ints still. -/
def RoundKeeps (A : Option Addr) (n b1 z : Nat) (W W' : World) : Prop := Off (fun k => k = b1 ∨ k = z ∨ k = z + 1) W W' ∧ IntsAt W' A n
theorem back_law {g : Operand} {ps : Array Tmp} {assign body : Code} {Q : Exit → Act → World → Prop} {a : Act} {w : World} {nn z : Nat}
    (A : Option Addr) (n c b1 : Nat) (hz : w.heap.size = z) (hn : n ≤ 4194304) (h1 : b1 < z) (c1 : w.cell? ⟨b1, 0, none⟩ = some (.slice A n c)) (hI0 : IntsAt w A n)
    (hg : a.eval g = .func (.func 61) #[] #[.pointer (some ⟨b1, 0, none⟩)]) (hps : ps.size = 2)
    (I : Nat → World → Prop) (hI : ∀ i A1 A2, I i A1 → A1.grownBy A2 (some (z + 1)) → I i A2) (h0 : I 0 w) (a₁ : Nat × Int → Act)
    (hassign : ∀ (l : Nat) (x : Nat × Int) (W : World) (K : Act → World → Prop), K (a₁ x) W →
      assign.wpIn (Fence.wide.inRound l) 0 Try.prog (Exit.then K (fun _ _ _ => False)) { tmps := (ps.zip #[.int .i64 (x.1 : Int), .int .i64 x.2]).foldl (fun t (p, v) => t.setIfInBounds p v) a.tmps, defers := [] } W)
    (hbody : ∀ (l i : Nat) (x : Nat × Int) (W : World), z + 2 ≤ W.heap.size → i < n → BackOk A n i x W → I i W →
      body.wpIn (Fence.wide.inRound l) 0 Try.prog (roundOut (RoundKeeps A n b1 z) (I (i + 1)) (fun _ _ => False) W) (a₁ x) W)
    (hdone : ∀ (D : Nat) (W : World), z ≤ D → I n W → W.heap[D]? = some (.deferred (some [])) → Q .normal { a with defers := { target := .collected D, args := #[] } :: a.defers } W) :
    (Code.rangeFunc g ps assign body).wpIn Fence.wide nn Try.prog Q a w := by
  have hG := backward_gives A n c b1 w hn (by omega) c1 hI0
  have hlo : ∀ ad, A = some ad → 0 < n → ad.block < z := fun ad e hn0 => by
    obtain ⟨ad', v, e', hc⟩ := hI0 0 hn0
    rw [e] at e'
    cases e'
    have := cell_in hc
    rw [add_block] at this
    omega
  refine range_law (gf := 61) (lb := #[.pointer (some ⟨b1, 0, none⟩)]) hg (enters_of Try.func61 (by kernel_rfl) rfl) hG (fun _ => hps.symm)
    (RoundKeeps A n b1 z) I (fun _ _ => False) (fun A1 A2 h k _ _ _ => by rw [h.heap]) (fun A1 A2 h k h2 h3 h4 => h.1.block k h4 (by omega)) ?kp ?inv (fun _ _ _ h _ => h.elim) ?ok h0 a₁ hassign ?body ?done (fun _ _ _ _ h _ => h.elim)
  case kp =>
    intro A1 B1 C1 D1 hs g1 g2 g3
    rw [hz] at g1 g3 hs
    have s1 := g1.size
    have s2 := g2.1.size
    refine ⟨(g3.block b1 (by omega) (fun e => by injection e with e; omega)).trans ((g2.1.block b1 (by omega) (.inl rfl)).trans (g1.block b1 (by omega) (fun e => by injection e with e; omega))), fun _ j hj => ?_⟩
    obtain ⟨ad, v, e, hc⟩ := g2.2 j hj
    refine ⟨ad, v, e, (World.cell?_of_block (g3.block _ (cell_in hc) (fun e' => ?_))).trans hc⟩
    injection e' with e'
    have := hlo ad e (by omega)
    rw [add_block] at e'
    omega
  case inv =>
    intro i A1 A2 h g
    rcases g with g | g
    · rw [hz] at g
      exact hI i A1 A2 h g
    · exact hI i A1 A2 h ⟨g.os, g.tape, g.output, by rw [g.heap]; exact Nat.le_refl _, fun k _ _ => by rw [g.heap]⟩
  case ok =>
    rintro i x A1 A2 r ⟨e1, ad, e2, hc⟩ hr h
    refine ⟨e1, ad, e2, (World.cell?_of_block (h.block _ (cell_in hc) (fun e' => ?_))).trans hc⟩
    injection e' with e'
    have := hlo ad e2 (by omega)
    rw [add_block] at e'
    omega
  case body =>
    intro l i x W hs hi hx hIi
    rw [hz] at hs
    exact hbody l i x W hs hi hx hIi
  case done =>
    intro D W hD hIn hk
    rw [hz] at hD
    exact hdone D W hD hIn hk
theorem ints_of_own {w : World} {B n c g : Nat} {U : Nat → Int} (h : w.ownsRow B 3 1 (.slice (some ⟨g, 0, none⟩) n c) n (icells U n)) : IntsAt w (some ⟨g, 0, none⟩) n := fun j hj =>
  ⟨_, U j, rfl, by rw [Addr.add_mid, Nat.zero_add, h.cellAt j (by omega)]; exact icells_at U n j hj⟩
theorem ints_of_its {w : World} {B n : Nat} {A : Option Addr} {U : Nat → Int} (h : Its w B A n U) : IntsAt w A n := fun j hj => by
  obtain ⟨ad, e, _, hc, _⟩ := h j hj
  exact ⟨ad, U j, e, hc⟩
end Go.Proofs.Ytlcgigiphlmjpaa
