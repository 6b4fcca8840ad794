/- slices.Chunk over bytes: what it hands over, told by number. -/
import Derived.Test.YtjmajminfmcjcaaDoorRange
import Derived.Test.YtjmajminfmcjcaaDoorBytes
import Derived.Test.YtjmajminfmcjcaaDoorMake
namespace Go.Proofs.YtjmajminfmcjcaaDoor
open Go.RowKit Go.Shelf

attribute [local go_sem] Oper.semAt_some

/-- how many parts of at most n bytes. -/
def partsIn (len n : Nat) : Nat := (len + n - 1) / n
/-- how long the i-th part is. -/
def partLen (len n i : Nat) : Nat := min n (len - n * i)
/-- the i-th part, as a slice. -/
def partAt (ad : Addr) (len n i : Nat) : Value := .slice (some (ad.add (n * i))) (partLen len n i) (partLen len n i)
/-- nothing has turned but the count of draws. -/
structure Quiet (A A' : World) : Prop where
  heap : A'.heap = A.heap
  os : A'.os = A.os
  tape : A'.tape = A.tape
  output : A'.output = A.output
theorem Quiet.below {A A' : World} (h : Quiet A A') (B : Nat) : Below B A A' := ⟨h.os, h.tape, h.output, by rw [h.heap]; exact Nat.le_refl _, fun k _ => by rw [h.heap]⟩
theorem quiet_drewN (w : World) (k : Nat) : Quiet w (w.drewN k) := ⟨rfl, rfl, rfl, rfl⟩
theorem quiet_drew (w : World) : Quiet w w.drew := ⟨rfl, rfl, rfl, rfl⟩

set_option maxRecDepth 100000 in
theorem chunk_any (A : Option Addr) (len c n : Nat) (w : World) (hn : 1 ≤ n ∧ n ≤ 264) :
    Calls Tryd.prog 48 #[.slice A len c, .int .i64 (n : Int)] w fun e w' => e = .returned (.func (.func 54) #[] #[.pointer (some ⟨w.heap.size, 0, none⟩), .pointer (some ⟨w.heap.size + 1, 0, none⟩)]) ∧
      w' = (w.alloc (.cells #[.slice A len c] 31)).alloc (.cells #[.int .i64 (n : Int)] 3) := by
  have d : decide ((n : Int) < 1) = false := by simp; omega
  have hl := lies_new (w.alloc (.cells #[.slice A len c] 31)) 3 [.int .i64 (n : Int)]
  rw [size_alloc] at hl
  have h0 := hl.cell 0
  go_enter Tryd.func48, Tryd.ntmps48
  go_wp2_with fail
  go_ret
  exact ⟨rfl, rfl⟩

set_option maxRecDepth 100000 in
set_option maxHeartbeats 1600000 in
theorem chunk_gives (ad : Addr) (len c n b1 b2 : Nat) (w : World) (hn : 1 ≤ n ∧ n ≤ 264) (hlen : len ≤ 4000000) (hc : len ≤ c) (h1 : b1 < w.heap.size) (h2 : b2 < w.heap.size)
    (c1 : w.cell? ⟨b1, 0, none⟩ = some (.slice (some ad) len c)) (c2 : w.cell? ⟨b2, 0, none⟩ = some (.int .i64 (n : Int))) :
    Gives Tryd.prog 54 #[.pointer (some ⟨b1, 0, none⟩), .pointer (some ⟨b2, 0, none⟩)] (fun i : Nat => #[partAt ad len n i]) (fun i x _ => x = i) (partsIn len n) Quiet
      (fun A A' => A'.heap[b1]? = A.heap[b1]? ∧ A'.heap[b2]? = A.heap[b2]?) w := by
  intro l J Jx W hW _ hJ hJx hY h0
  have C1 := (hW.cell (p := ⟨b1, 0, none⟩) h1).trans c1
  have C2 := (hW.cell (p := ⟨b2, 0, none⟩) h2).trans c2
  have HY := Lib.hid hY
  have HJ := Lib.hid hJ
  have HJx := Lib.hid hJx
  clear hY hJ hJx c1 c2 hW h1 h2
  obtain ⟨hn1, hn2⟩ := hn
  have hP : ∀ k, k < partsIn len n ↔ n * k < len := fun k => by
    unfold partsIn
    rw [Nat.lt_div_iff_mul_lt (by omega), Nat.mul_comm]
    omega
  have HP := Lib.hid hP
  obtain ⟨N, hN⟩ : ∃ N, partsIn len n = N := ⟨_, rfl⟩
  rw [hN] at HP HY ⊢
  clear hP hN
  refine (callsIn_wide (n := 0)).1 ?_
  refine callsIn_of_wp Tryd.func54 rfl trivial ?_ rfl
  simp only [Tryd.ntmps54, List.size_toArray, List.length_cons, List.length_nil, Nat.reduceAdd, Nat.reduceSub, Array.replicate_succ, Array.replicate_zero, List.push_toArray, List.append_toArray, List.nil_append, List.cons_append]
  gi_wp2
  gi_loopw [4] (fun i wr => ∃ k q : Nat, k ≤ N ∧ q = n * k ∧ i = .int .i64 (q : Int) ∧ Hid (J k wr) ∧ wr.cell? ⟨b1, 0, none⟩ = some (.slice (some ad) len c) ∧ wr.cell? ⟨b2, 0, none⟩ = some (.int .i64 (n : Int))) (fun i _ => len + 264 - (intOf i).toNat)
  case atStart => exact ⟨0, 0, Nat.zero_le _, by omega, rfl, Lib.hid h0, C1, C2⟩
  case round =>
    clear C1 C2
    obtain ⟨k, q, hk, hq, rfl, hJs, C1, C2⟩ := hrel
    by_cases hlt : k < N
    · have hql : q < len := by rw [hq]; exact (HP.out k).1 hlt
      have HQ := Lib.hid hq
      have d1 : (q : Int) < (len : Int) := by omega
      clear hq
      obtain ⟨r, hr⟩ : ∃ r, len - q = r := ⟨_, rfl⟩
      have d2 : (q : Int) ≤ (len : Int) := by omega
      have d3 : c ≠ q := by omega
      have HR := Lib.hid hr
      have hJd : J k wr.drew := HJ.out _ _ _ hJs.out (quiet_drew wr)
      have hy0 := HY.out k k wr.drew hlt rfl hJd
      have HPt : Hid (partAt ad len n k = .slice (some (ad.add q)) (min n r) (min n r)) := Lib.hid (by unfold partAt partLen; rw [← HQ.out, HR.out])
      have HK2 := Lib.hid (show n * (k + 1) = q + n by rw [Nat.mul_add, Nat.mul_one, ← HQ.out])
      rw [HPt.out] at hy0
      clear hJd hJs
      by_cases hmin : n ≤ r
      · have d4 : ¬ (r : Int) < (n : Int) := by omega
        have e1 : ((q : Int) + (n : Int)).toNat = q + n := by omega
        have e2 : q + n - q = n := by omega
        rw [Nat.min_eq_left hmin] at hy0
        obtain ⟨fn, tmps, assign, body, hy, hR⟩ := hy0
        gi_wp2
        gi_region
        gi_wp2
        refine ⟨rfl, hR.mono ?_⟩
        rintro e W3 (⟨rfl, hJ3, hk1, hk2⟩ | ⟨rfl, hJx3, _⟩)
        · have C13 : W3.cell? ⟨b1, 0, none⟩ = some (.slice (some ad) len c) := (World.cell?_of_block (w := wr.drew) (a := ⟨b1, 0, none⟩) hk1).trans C1
          have C23 : W3.cell? ⟨b2, 0, none⟩ = some (.int .i64 (n : Int)) := (World.cell?_of_block (w := wr.drew) (a := ⟨b2, 0, none⟩) hk2).trans C2
          have HJ3 := Lib.hid hJ3
          clear hk1 hk2 hJ3 hy hR
          gi_wp2
          go_roundw
          case rel => exact ⟨k + 1, q + n, by omega, HK2.out.symm, by go_num, HJ3, C13, C23⟩
          case measure => simp [intOf]; omega
        · gi_wp2
          refine bodyPost_ret (results_none rfl _ _ _) rfl ?_
          exact ⟨⟨_, rfl⟩, .inr hJx3⟩
      · have d4 : (r : Int) < (n : Int) := by omega
        have e1 : ((q : Int) + (r : Int)).toNat = q + r := by omega
        have e2 : q + r - q = r := by omega
        rw [Nat.min_eq_right (by omega)] at hy0
        obtain ⟨fn, tmps, assign, body, hy, hR⟩ := hy0
        gi_wp2
        gi_region
        gi_wp2
        refine ⟨rfl, hR.mono ?_⟩
        rintro e W3 (⟨rfl, hJ3, hk1, hk2⟩ | ⟨rfl, hJx3, _⟩)
        · have C13 : W3.cell? ⟨b1, 0, none⟩ = some (.slice (some ad) len c) := (World.cell?_of_block (w := wr.drew) (a := ⟨b1, 0, none⟩) hk1).trans C1
          have C23 : W3.cell? ⟨b2, 0, none⟩ = some (.int .i64 (n : Int)) := (World.cell?_of_block (w := wr.drew) (a := ⟨b2, 0, none⟩) hk2).trans C2
          have HJ3 := Lib.hid hJ3
          clear hk1 hk2 hJ3 hy hR
          gi_wp2
          go_roundw
          case rel => exact ⟨k + 1, q + n, by omega, HK2.out.symm, by go_num, HJ3, C13, C23⟩
          case measure => simp [intOf]; omega
        · gi_wp2
          refine bodyPost_ret (results_none rfl _ _ _) rfl ?_
          exact ⟨⟨_, rfl⟩, .inr hJx3⟩
    · obtain rfl : N = k := by omega
      have hge : ¬ (q : Int) < (len : Int) := by
        have h := HP.out N
        rw [← hq] at h
        omega
      clear hq
      gi_wp2
      go_end0
      exact ⟨⟨_, rfl⟩, .inl hJs.out⟩

/-- of no bytes: no part. -/
theorem partsIn_none (n : Nat) (hn : 1 ≤ n) : partsIn 0 n = 0 := by
  unfold partsIn
  exact Nat.div_eq_of_lt (by omega)
set_option maxRecDepth 100000 in
set_option maxHeartbeats 1600000 in
theorem chunk_gives_none (ad : Addr) (A : Option Addr) (c n b1 b2 : Nat) (w : World) (hn : 1 ≤ n ∧ n ≤ 264) (h1 : b1 < w.heap.size)
    (c1 : w.cell? ⟨b1, 0, none⟩ = some (.slice A 0 c)) :
    Gives Tryd.prog 54 #[.pointer (some ⟨b1, 0, none⟩), .pointer (some ⟨b2, 0, none⟩)] (fun i : Nat => #[partAt ad 0 n i]) (fun i x _ => x = i) (partsIn 0 n) Quiet
      (fun A A' => A'.heap[b1]? = A.heap[b1]? ∧ A'.heap[b2]? = A.heap[b2]?) w := by
  intro l J Jx W hW _ hJ hJx hY h0
  rw [partsIn_none n hn.1]
  have C1 := (hW.cell (p := ⟨b1, 0, none⟩) h1).trans c1
  clear hY hJ hJx c1 hW h1
  refine (callsIn_wide (n := 0)).1 ?_
  refine callsIn_of_wp Tryd.func54 rfl trivial ?_ rfl
  simp only [Tryd.ntmps54, List.size_toArray, List.length_cons, List.length_nil, Nat.reduceAdd, Nat.reduceSub, Array.replicate_succ, Array.replicate_zero, List.push_toArray, List.append_toArray, List.nil_append, List.cons_append]
  gi_wp2
  gi_loopw [4] (fun i wr => i = .int .i64 0 ∧ Hid (J 0 wr) ∧ wr.cell? ⟨b1, 0, none⟩ = some (.slice A 0 c)) (fun _ _ => 0)
  case atStart => exact ⟨rfl, Lib.hid h0, C1⟩
  case round =>
    clear C1
    obtain ⟨rfl, hJs, C1⟩ := hrel
    gi_wp2
    go_end0
    exact ⟨⟨_, rfl⟩, .inl hJs.out⟩
end Go.Proofs.YtjmajminfmcjcaaDoor
