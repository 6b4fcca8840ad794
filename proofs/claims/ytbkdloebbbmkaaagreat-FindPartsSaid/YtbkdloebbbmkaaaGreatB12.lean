/- The developers' suffix.laid: all places in the order of their suffixes, from the dips in theirs. The developers' suffix.ordered: the places of numbers in the order of their suffixes. The developers' suffix: Turn; Least. The developers' suffix: ranked, Array; all that the laws ask of package suffix (suffix_any). -/
import Derived.Laws.EntriesVeiled
import Derived.Test.YtbkdloebbbmkaaaGreatB08
import Derived.Test.YtbkdloebbbmkaaaGreatB10
import Derived.Test.YtbkdloebbbmkaaaGreatB09
import Derived.Test.YtbkdloebbbmkaaaGreatB11
namespace Go.Proofs.YtbkdloebbbmkaaaGreat
open Go.RowKit Go.Shelf

attribute [local go_sem] Oper.semAt_some

theorem Rw.raise {w : World} {T T' n c b g e h : Nat} {A : Option Addr} {X : Nat → Nat} (r : Rw w T A n c X b g e h) (hT : T ≤ T') : Rw w T' A n c X b g e h :=
  ⟨r.head, r.t.mono_ hT, r.less, r.heads, by have := r.lt; omega, r.small, r.right⟩
theorem its_cut {w : World} {k : Nat} {U : Nat → Int} {n o : Nat} (h : Lies w k 3 (icells U n)) : ∀ j, j + o < n → w.cell? ((⟨k, o, none⟩ : Addr).add j) = some (.int .i64 (U (o + j))) := fun j hj => by
  rw [Addr.add_mid, h.cell]
  exact icells_at U n _ (by omega)

/-- slices.Clone of ints out of a block that is known whole. -/
theorem sClone_any {w : World} {k n o m cc : Nat} {U : Nat → Int} (h : Lies w k 3 (icells U n)) (ho : o + m ≤ n) (hm : m ≤ 4194304) :
    Calls Tryz.prog 70 #[.slice (some ⟨k, o, none⟩) m cc] w fun e w' => ∃ v', e = .returned v' ∧ w'.ownsRow w.heap.size 3 1 v' m (icells (fun j => U (o + j)) m) ∧ Below w.heap.size w w' := by
  have hl : ((List.range m).map fun j => U (o + j)).length = m := by simp
  have hg : ∀ j, j < m → ((List.range m).map fun j => U (o + j)).getD j 0 = U (o + j) := fun j hj => by
    rw [List.getD_eq_getElem?_getD, List.getElem?_map, List.getElem?_range hj]
    rfl
  have hC := Any.slices_Clone_int cloneLays k o m cc ((List.range m).map fun j => U (o + j)) w (by rw [hl]; exact Nat.le_refl _) (by omega) (fun j hj => by
    rw [hl] at hj
    rw [hg j hj, h.cell]
    exact icells_at U n _ (by omega))
  refine Calls.mono hC ?_
  rintro e w' ⟨v', rfl, hown, _, hb⟩
  refine ⟨v', rfl, ?_, hb⟩
  have e1 : (List.take m ((List.range m).map fun j => U (o + j))).map (Value.int .i64) = icells (fun j => U (o + j)) m := by
    rw [List.take_of_length_le (by rw [hl]; exact Nat.le_refl _), List.map_map]
    rfl
  rw [e1] at hown
  exact hown

theorem own_base {w : World} {B B' n g c : Nat} {t : TypeId} {cs : List Value} (h : w.ownsRow B t 1 (.slice (some ⟨g, 0, none⟩) n c) n cs) (hg : B' ≤ g) : w.ownsRow B' t 1 (.slice (some ⟨g, 0, none⟩) n c) n cs := by
  refine ⟨h.1, ?_⟩
  rcases h.2 with ⟨e, _⟩ | ⟨g', cap, cur, e, _, h2⟩
  · cases e
  · cases e
    exact .inr ⟨g, c, cur, rfl, hg, h2⟩
theorem own_off {w w' : World} {B n g c : Nat} {t : TypeId} {cs : List Value} (h : w.ownsRow B t 1 (.slice (some ⟨g, 0, none⟩) n c) n cs) (e' : w'.heap[g]? = w.heap[g]?) : w'.ownsRow B t 1 (.slice (some ⟨g, 0, none⟩) n c) n cs := by
  refine ⟨h.1, ?_⟩
  rcases h.2 with ⟨e, _⟩ | ⟨g', cap, cur, e, h1, h2, h3⟩
  · cases e
  · cases e
    exact .inr ⟨g, c, cur, rfl, h1, e'.trans h2, h3⟩
theorem own_lt {w : World} {B n g c : Nat} {t : TypeId} {cs : List Value} (h : w.ownsRow B t 1 (.slice (some ⟨g, 0, none⟩) n c) n cs) : g < w.heap.size := (h.lt g rfl).2
theorem Lg.off {w w' : World} {T n c b g e h b2 b5 b6 s y cs cy : Nat} {A : Option Addr} {X : Nat → Nat} {S N : Nat → Int} {p : Nat → Prop} (l : Lg w T A n c X b g e h b2 b5 b6 s y cs cy S N) (hO : Off p w w')
    (hp : ∀ k, k < T ∨ k = b2 ∨ k = b5 ∨ k = b6 ∨ k = s ∨ k = y → p k) : Lg w' T A n c X b g e h b2 b5 b6 s y cs cy S N := by
  have hlt := own_lt l.sa
  have hT := l.ge.2.2.2.1
  refine ⟨l.row.below (hO.below (by omega) (fun k hk => hp k (.inl hk))) (Nat.le_refl _), hO.cell l.v2 (hp _ (.inr (.inl rfl))), hO.cell l.v5 (hp _ (.inr (.inr (.inl rfl)))), hO.cell l.v6 (hp _ (.inr (.inr (.inr (.inl rfl))))),
    own_off l.sa (hO.block _ hlt (hp _ (.inr (.inr (.inr (.inr (.inl rfl))))))), own_off l.nx (hO.block _ (own_lt l.nx) (hp _ (.inr (.inr (.inr (.inr (.inr rfl))))))), l.ge, l.ne⟩

/-- what lies while laid runs: ms: the marks of the loops that are over. -/
def LIn (w : World) (lo : Nat) (A : Option Addr) (n c : Nat) (X : Nat → Nat) (b g e h b5 b6 y cy : Nat) (P : Option Addr) (m : Nat) (D : Nat → Nat) (ms : List Nat) (Φ : (Nat → Int) → (Nat → Int) → Prop) (W : World) : Prop :=
  ∃ S N, Lg W lo A n c X b g e h lo b5 b6 (lo + 2) y n cy S N ∧ Φ S N ∧
    W.cell? ⟨b6 + 1, 0, none⟩ = some (.func (.func 117) #[] #[.pointer (some ⟨b6, 0, none⟩), .pointer (some ⟨lo, 0, none⟩), .pointer (some ⟨b5, 0, none⟩)]) ∧
    Its W lo P m (fun k => ((D k : Nat) : Int)) ∧ Below lo w W ∧ b6 + 2 ≤ W.heap.size ∧ ∀ d ∈ ms, W.heap[d]? = some (.deferred (some []))
section
variable {w W W' : World} {lo n c b g e h b5 b6 y cy m : Nat} {A P : Option Addr} {X D : Nat → Nat} {ms : List Nat} {Φ Φ' : (Nat → Int) → (Nat → Int) → Prop}
theorem LIn.off {p : Nat → Prop} (l : LIn w lo A n c X b g e h b5 b6 y cy P m D ms Φ W) (hO : Off p W W') (hp : ∀ k, k < b6 + 2 → p k) (hm : ∀ d ∈ ms, p d) (hy : y < b6) (h5 : b5 < b6) (hl : lo + 2 < b6) : LIn w lo A n c X b g e h b5 b6 y cy P m D ms Φ W' := by
  obtain ⟨S, N, h1, h2, h3, h4, h6, h7, h8⟩ := l
  have hb : Below lo W W' := hO.below (by omega) (fun k hk => hp k (by omega))
  refine ⟨S, N, h1.off hO (fun k hk => hp k (by rcases hk with hk | rfl | rfl | rfl | rfl | rfl <;> omega)), h2, hO.cell h3 (hp _ (by show b6 + 1 < b6 + 2; omega)), h4.below hb, h6.trans hb, Nat.le_trans h7 hO.size, fun d hd => (hO.block d ?_ (hm d hd)).trans (h8 d hd)⟩
  have := h8 d hd
  exact (Array.getElem?_eq_some_iff.1 this).1
theorem LIn.grown {r : Nat} (l : LIn w lo A n c X b g e h b5 b6 y cy P m D ms Φ W) (hg : W.grownBy W' (some r)) (hr : b6 + 2 ≤ r) (hm : ∀ d ∈ ms, d ≠ r) (hy : y < b6) (h5 : b5 < b6) (hl : lo + 2 < b6) : LIn w lo A n c X b g e h b5 b6 y cy P m D ms Φ W' :=
  l.off (p := fun k => k ≠ r) (Off.grown hg (fun k e' => by cases e'; exact fun hh => hh rfl)) (fun k hk => by omega) hm hy h5 hl
theorem LIn.turn (l : LIn w lo A n c X b g e h b5 b6 y cy P m D ms Φ W) {S N : Nat → Int} (h1 : Lg W lo A n c X b g e h lo b5 b6 (lo + 2) y n cy S N) (hΦ : Φ' S N) : LIn w lo A n c X b g e h b5 b6 y cy P m D ms Φ' W := by
  obtain ⟨_, _, _, _, h3, h4, h6, h7, h8⟩ := l
  exact ⟨S, N, h1, hΦ, h3, h4, h6, h7, h8⟩
/-- two stores, into the list and into the places. -/
theorem LIn.two {S' N' : Nat → Int} (l : LIn w lo A n c X b g e h b5 b6 y cy P m D ms Φ W) (hL : Lg W' lo A n c X b g e h lo b5 b6 (lo + 2) y n cy S' N') (hO : Off (fun q => q ≠ lo + 2 ∧ q ≠ y) W W') (hΦ : Φ' S' N') (hm : ∀ d ∈ ms, b6 + 2 ≤ d) (hy : y < b6) (hly : lo ≤ y) (hl : lo + 2 < b6) : LIn w lo A n c X b g e h b5 b6 y cy P m D ms Φ' W' := by
  obtain ⟨S, N, h1, h2, h3, h4, h6, h7, h8⟩ := l
  have hb : Below lo W W' := hO.below (by omega) (fun k hk => ⟨by omega, by omega⟩)
  refine ⟨S', N', hL, hΦ, hO.cell h3 ⟨by show b6 + 1 ≠ lo + 2; omega, by show b6 + 1 ≠ y; omega⟩, h4.below hb, h6.trans hb, Nat.le_trans h7 hO.size, fun d hd => (hO.block d ?_ ?_).trans (h8 d hd)⟩
  · exact (Array.getElem?_eq_some_iff.1 (h8 d hd)).1
  · have := hm d hd
    exact ⟨by omega, by omega⟩
theorem Lg.new_nx {w w' : World} {T n c b g e h b2 b5 b6 s y cs cy : Nat} {A : Option Addr} {X : Nat → Nat} {S N N' : Nat → Int} (l : Lg w T A n c X b g e h b2 b5 b6 s y cs cy S N) (hO : Off (fun q => q ≠ y) w w')
    (hn : w'.ownsRow T 3 1 (.slice (some ⟨y, 0, none⟩) b cy) b (icells N' b)) : Lg w' T A n c X b g e h b2 b5 b6 s y cs cy S N' := by
  have hlt := own_lt l.sa
  obtain ⟨g1, g2, g3, g4, g5⟩ := l.ge
  obtain ⟨n1, n2, n3, n4, n5, n6, n7⟩ := l.ne
  exact ⟨l.row.below (hO.below (by omega) (fun k hk => by omega)) (Nat.le_refl _), hO.cell l.v2 (fun e => n5 e.symm), hO.cell l.v5 (fun e => n6 e.symm), hO.cell l.v6 (fun e => n7 e.symm), own_off l.sa (hO.block _ hlt n1), hn, l.ge, l.ne⟩
/-- new numbers for where the next ones go. -/
theorem LIn.copied {ms' : List Nat} {S N N' : Nat → Int} (l : LIn w lo A n c X b g e h b5 b6 y cy P m D ms Φ W) (h1 : Lg W lo A n c X b g e h lo b5 b6 (lo + 2) y n cy S N) (hO : Off (fun q => q ≠ y) W W') (hn : W'.ownsRow lo 3 1 (.slice (some ⟨y, 0, none⟩) b cy) b (icells N' b))
    (hΦ : Φ' S N') (hm : ∀ d ∈ ms', W'.heap[d]? = some (.deferred (some []))) (hy : y < b6) (hly : lo ≤ y) : LIn w lo A n c X b g e h b5 b6 y cy P m D ms' Φ' W' := by
  obtain ⟨_, _, _, _, h3, h4, h6, h7, _⟩ := l
  have hb : Below lo W W' := hO.below (by omega) (fun k hk => by omega)
  exact ⟨S, N', h1.new_nx hO hn, hΦ, hO.cell h3 (by show b6 + 1 ≠ y; omega), h4.below hb, h6.trans hb, Nat.le_trans h7 hO.size, hm⟩
end

/-- what laid leaves. -/
def LaidPost (X : Nat → Nat) (n m : Nat) (D : Nat → Nat) (S : Nat → Int) : Prop :=
  ∀ P Q, Ord2 X n P → Ord3 X n P Q → (∀ k l, k < l → l < m → X (D k) = X (D l) → ¬ P (D l) (D k)) → ∃ s, InOrder n Q S s

set_option maxRecDepth 100000 in
set_option maxHeartbeats 3200000 in
theorem sLaid_any {w : World} {T n c b g e h : Nat} {A : Option Addr} {X : Nat → Nat} (r : Rw w T A n c X b g e h) (hT : T ≤ w.heap.size) (P : Option Addr) (m cp : Nat) (D : Nat → Nat) (hD : Dips X n m D)
    (hP : Its w w.heap.size P m (fun k => ((D k : Nat) : Int))) :
    Calls Tryz.prog 99 #[.pointer (some ⟨g, 0, none⟩), .slice P m cp] w fun e' w' => ∃ (g' c' : Nat) (S : Nat → Int), e' = .returned (.slice (some ⟨g', 0, none⟩) n c') ∧
      w'.ownsRow w.heap.size 3 1 (.slice (some ⟨g', 0, none⟩) n c') n (icells S n) ∧ Below w.heap.size w w' ∧ LaidPost X n m D S := by
  have hn := r.small
  have hb1 : 0 < b := Nat.lt_of_le_of_lt (Nat.zero_le _) (r.right 0 hn.1)
  have hm : m ≤ n := by
    have := pigeon n m (fun _ => true) D (fun i hi => ⟨(hD.is i hi).1, rfl⟩) hD.inj
    exact Nat.le_trans this (cnt_to _ _)
  have HD := Lib.hid hD
  have HP := Lib.hid hP
  have hr := r.raise hT
  obtain ⟨lo, hlo⟩ : ∃ lo, w.heap.size = lo := ⟨_, rfl⟩
  rw [hlo] at hr HP ⊢
  have HR := Lib.hid hr
  obtain ⟨hn0, hn4, hb4, _, _⟩ := hn
  clear r hT hD hP
  -- the parameter's box; the one number that is repeated
  obtain ⟨w1, hw1⟩ : ∃ w1, w.alloc (.cells #[.pointer (some ⟨g, 0, none⟩)] 114) = w1 := ⟨_, rfl⟩
  have z1 : w1.heap.size = lo + 1 := by rw [← hw1, size_alloc, hlo]
  have k1 : Below lo w w1 := by rw [← hw1, ← hlo]; exact (Below.refl _ _).alloc (Nat.le_refl _) _
  have l2 : Lies w1 lo 114 [.pointer (some ⟨g, 0, none⟩)] := by rw [← hw1, ← hlo]; exact lies_new w _ _
  have hr1 := hr.below k1 (Nat.le_refl _)
  have a0 := hr1.c0
  have v2 := l2.cell 0
  obtain ⟨w2, hw2⟩ : ∃ w2, w1.alloc (.cells #[.int .i64 (-1)] 3) = w2 := ⟨_, rfl⟩
  have z2 : w2.heap.size = lo + 2 := by rw [← hw2, size_alloc, z1]
  have k2 : Below (lo + 1) w1 w2 := by rw [← hw2, ← z1]; exact (Below.refl _ _).alloc (Nat.le_refl _) _
  have l3 : Lies w2 (lo + 1) 3 [.int .i64 (-1)] := by rw [← hw2, ← z1]; exact lies_new w1 _ _
  have hr2 := hr1.below (k2.mono (by omega)) (Nat.le_refl _)
  have a02 := hr2.c0
  have v22 := (l2.below k2 (by omega)).cell 0
  have HRep := Lib.hid (repeat_any (lo + 1) n 1 (-1) w2 hn4 l3)
  clear hr hr1
  refine (callsIn_wide (n := 0)).1 ?_
  refine callsIn_of_wp_marks Tryz.func99 rfl trivial ?_ rfl
  simp only [Tryz.ntmps99, List.size_toArray, List.length_cons, List.length_nil, Nat.reduceAdd, Nat.reduceSub, Array.replicate_succ, Array.replicate_zero, List.push_toArray, List.append_toArray, List.nil_append, List.cons_append]
  gi_wp2
  refine ⟨trivial, rfl, (callsIn_wide.2 HRep.out).mono ?_⟩
  rintro e' w3 ⟨rfl, ls, o3⟩
  rw [z2] at ls o3
  clear HRep
  have k3 : Below (lo + 2) w2 w3 := o3.below (by omega) (fun k hk => by omega)
  obtain ⟨b5, z3⟩ : ∃ b5, w3.heap.size = b5 := ⟨_, rfl⟩
  have s3 := ls.lt
  rw [z3] at s3
  obtain ⟨w4, hw4⟩ : ∃ w4, w3.alloc (.cells #[.slice none 0 0] 22) = w4 := ⟨_, rfl⟩
  have z4 : w4.heap.size = b5 + 1 := by rw [← hw4, size_alloc, z3]
  have k4 : Below b5 w3 w4 := by rw [← hw4, ← z3]; exact (Below.refl _ _).alloc (Nat.le_refl _) _
  have l4 : Lies w4 b5 22 [.slice none 0 0] := by rw [← hw4, ← z3]; exact lies_new w3 _ _
  have f4 := l4.free 0
  have c4 := l4.cell 0
  obtain ⟨w5, hw5⟩ : ∃ w5, w4.setCell ⟨b5, 0, none⟩ (.slice (some ⟨lo + 2, 0, none⟩) n n) = w5 := ⟨_, rfl⟩
  have z5 : w5.heap.size = b5 + 1 := by rw [← hw5]; simp [World.setCell]; exact z4
  have k5 : Below b5 w4 w5 := by rw [← hw5]; exact (Below.refl b5 w4).setCell (p := ⟨b5, 0, none⟩) (Nat.le_refl _) _
  have l5 : Lies w5 b5 22 [.slice (some ⟨lo + 2, 0, none⟩) n n] := by rw [← hw5]; exact l4.put 0 _
  have K5 : Below (lo + 1) w1 w5 := (k2.trans (k3.mono (by omega))).trans ((k4.mono (by omega)).trans (k5.mono (by omega)))
  have L2 := l2.below K5 (by omega)
  have l2o := L2
  have LS := (ls.below k4 (by omega)).below k5 (by omega)
  have R5 := (HR.out.below k1 (Nat.le_refl _)).below (K5.mono (by omega)) (Nat.le_refl _)
  have g5 := L2.cell 0
  have h5 := R5.c2
  have HCl := Lib.hid (sClone_any (cc := b) (o := 1) (m := b) R5.heads (by omega) hb4)
  clear l2 v2 hw1 a0 hw2 z1 k2 l3 hr2 a02 v22 ls o3 k3 l4 k4 k5
  gi_wp2
  refine ⟨trivial, rfl, (callsIn_wide.2 HCl.out).mono ?_⟩
  rintro e' w6 ⟨v6, rfl, hy, k6⟩
  rw [z5] at hy k6
  clear HCl
  obtain ⟨y, cy, rfl, hy1, hy2, hy3, hy4⟩ := owns_some hy hb1
  obtain ⟨b6, z6⟩ : ∃ b6, w6.heap.size = b6 := ⟨_, rfl⟩
  rw [z6] at hy2
  have s6 := k6.size
  rw [z5, z6] at s6
  obtain ⟨w7, hw7⟩ : ∃ w7, w6.alloc (.cells #[.slice none 0 0] 22) = w7 := ⟨_, rfl⟩
  have z7 : w7.heap.size = b6 + 1 := by rw [← hw7, size_alloc, z6]
  have k7 : Below b6 w6 w7 := by rw [← hw7, ← z6]; exact (Below.refl _ _).alloc (Nat.le_refl _) _
  have l7 : Lies w7 b6 22 [.slice none 0 0] := by rw [← hw7, ← z6]; exact lies_new w6 _ _
  have f7 := l7.free 0
  have c7 := l7.cell 0
  obtain ⟨w8, hw8⟩ : ∃ w8, w7.setCell ⟨b6, 0, none⟩ (.slice (some ⟨y, 0, none⟩) b cy) = w8 := ⟨_, rfl⟩
  have z8 : w8.heap.size = b6 + 1 := by rw [← hw8]; simp [World.setCell]; exact z7
  have k8 : Below b6 w7 w8 := by rw [← hw8]; exact (Below.refl b6 w7).setCell (p := ⟨b6, 0, none⟩) (Nat.le_refl _) _
  have l8 : Lies w8 b6 22 [.slice (some ⟨y, 0, none⟩) b cy] := by rw [← hw8]; exact l7.put 0 _
  obtain ⟨w9, hw9⟩ : ∃ w9, w8.alloc (.cells #[.nilFunc] 135) = w9 := ⟨_, rfl⟩
  have z9 : w9.heap.size = b6 + 2 := by rw [← hw9, size_alloc, z8]
  have k9 : Below (b6 + 1) w8 w9 := by rw [← hw9, ← z8]; exact (Below.refl _ _).alloc (Nat.le_refl _) _
  have l9 : Lies w9 (b6 + 1) 135 [.nilFunc] := by rw [← hw9, ← z8]; exact lies_new w8 _ _
  have f9 := l9.free 0
  have c9 := l9.cell 0
  obtain ⟨w10, hw10⟩ : ∃ w10, w9.setCell ⟨b6 + 1, 0, none⟩ (.func (.func 117) #[] #[.pointer (some ⟨b6, 0, none⟩), .pointer (some ⟨lo, 0, none⟩), .pointer (some ⟨b5, 0, none⟩)]) = w10 := ⟨_, rfl⟩
  have z10 : w10.heap.size = b6 + 2 := by rw [← hw10]; simp [World.setCell]; exact z9
  have k10 : Below (b6 + 1) w9 w10 := by rw [← hw10]; exact (Below.refl (b6 + 1) w9).setCell (p := ⟨b6 + 1, 0, none⟩) (Nat.le_refl _) _
  have l10 : Lies w10 (b6 + 1) 135 [(.func (.func 117) #[] #[.pointer (some ⟨b6, 0, none⟩), .pointer (some ⟨lo, 0, none⟩), .pointer (some ⟨b5, 0, none⟩)])] := by rw [← hw10]; exact l9.put 0 _
  have K10 : Below (b6 + 1) w8 w10 := k9.trans k10
  have K8 : Below b6 w6 w10 := (k7.trans k8).trans (K10.mono (by omega))
  have K6 : Below (b5 + 1) w5 w10 := k6.trans (K8.mono (by omega))
  have HBk := Lib.hid (backward_any P m cp w10)
  clear l7 l9 k9 k10 k7 k8 k6 L2 R5 g5 h5
  gi_wp2
  refine ⟨trivial, rfl, (callsIn_wide.2 HBk.out).mono ?_⟩
  rintro e' w11 ⟨rfl, hw11⟩
  rw [z10]
  clear HBk
  have z11 : w11.heap.size = b6 + 3 := by rw [hw11, size_alloc, z10]
  have k11 : Below (b6 + 2) w10 w11 := by rw [hw11, ← z10]; exact (Below.refl _ _).alloc (Nat.le_refl _) _
  have l11 : Lies w11 (b6 + 2) 22 [.slice P m cp] := by rw [hw11, ← z10]; exact lies_new w10 _ _
  gi_wp2
  rw [← hw11]
  have ks : lo + 2 < b5 := s3
  have ky : y < b6 := hy2
  have k5b : b5 < b6 := by omega
  have kl : lo + 2 < b6 := by omega
  have K11 : Below lo w w11 := (k1.trans (K5.mono (by omega))).trans ((K6.mono (by omega)).trans (k11.mono (by omega)))
  have L0 : LIn w lo A n c X b g e h b5 b6 y cy P m D [] (One X n b m D m) w11 := by
    have K5w : Below (lo + 1) w5 w11 := (K6.mono (by omega)).trans (k11.mono (by omega))
    have l2' := (l2o.below K5w (by omega))
    have l5' := l5.below (K6.trans (k11.mono (by omega))) (by omega)
    have lS := LS.below (K6.trans (k11.mono (by omega))) (by omega)
    have l8' := l8.below (K10.trans (k11.mono (by omega))) (by omega)
    have l10' := l10.below k11 (by omega)
    refine ⟨fun _ => -1, fun j => hdI X n (1 + j), ⟨HR.out.below K11 (Nat.le_refl _), l2'.cell 0, l5'.cell 0, l8'.cell 0, owns_lies lS (by omega) (by rw [icells_length]) (by unfold maxLen; omega), own_off (own_base hy (by omega)) ((K8.trans (k11.mono (by omega))).block y ky), by omega, by omega⟩,
      One.start (fun x _ => by show ((hd X n (1 + x) : Nat) : Int) = _; rw [Nat.add_comm]) (fun _ _ => rfl), l10'.cell 0, HP.out.below K11, K11, by omega, fun d hd' => by cases hd'⟩
  clear hw4 hw5 z4
  refine back_law P m cp (b6 + 2) z11 (by omega) (by omega) (l11.cell 0) (ints_of_its (HP.out.below K11)) rfl rfl
    (fun i W => Hid (LIn w lo A n c X b g e h b5 b6 y cy P m D [] (One X n b m D (m - i)) W)) ?inv (Lib.hid (by rw [Nat.sub_zero]; exact L0)) (fun x => { tmps := #[.pointer (some ⟨g, 0, none⟩), .slice P m cp, .pointer (some ⟨lo, 0, none⟩), undef, .slice none 0 0, .pointer (some ⟨b5, 0, none⟩), .pointer (some ⟨b6, 0, none⟩), .pointer (some ⟨b6 + 1, 0, none⟩), undef, .int .i64 x.2, undef, undef, undef, undef, undef, .slice (some ⟨lo + 1, 0, none⟩) 1 1, .pointer (some ⟨g, 0, none⟩), .pointer (some ⟨g, 0, none⟩), .pointer (some ⟨g, 0, none⟩), .slice A n c, .int .i64 (n : Int), .slice (some ⟨lo + 2, 0, none⟩) n n, .pointer (some ⟨g, 0, none⟩), .pointer (some ⟨g, 0, none⟩), .pointer (some ⟨g, 2, none⟩), .slice (some ⟨h, 0, none⟩) (b + 1) (b + 1), .slice (some ⟨h, 1, none⟩) b b, .slice (some ⟨y, 0, none⟩) b cy, .func (.func 117) #[] #[.pointer (some ⟨b6, 0, none⟩), .pointer (some ⟨lo, 0, none⟩), .pointer (some ⟨b5, 0, none⟩)], .slice P m cp, .func (.func 52) #[] #[.pointer (some ⟨b6 + 2, 0, none⟩)], .int .i64 (x.1 : Int), .int .i64 x.2, undef, undef, undef, undef, undef, undef, undef, undef, undef, undef, undef, undef, undef, undef, undef, undef, undef, undef, undef, undef, undef, undef, undef, undef, undef, undef, undef, undef, undef, undef, undef, undef, undef, undef, undef, undef, undef, undef, undef, undef, undef, undef, undef, undef, undef, undef, undef, undef, undef, undef, undef, undef, undef, undef, undef, undef, undef, undef, undef, undef, undef, undef, undef, undef, undef, undef, undef, undef, undef, undef], defers := [] }) ?assign ?body ?done
  case inv =>
    intro i A1 A2 hi hg
    exact Lib.hid (hi.out.grown hg (by omega) (fun d hd' => by cases hd') ky k5b kl)
  case assign =>
    intro l x W K hK
    gi_wp2
    exact hK
  case body =>
    rintro l i ⟨k, v⟩ W hs hi ⟨hx1, ad, hA, hc⟩ hLI
    have hx1 : k + i + 1 = m := hx1
    have hkm : k < m := by omega
    obtain ⟨S, N, hL, hOn, hF, hPi, hB, hsz, _⟩ := hLI.out
    obtain ⟨ad', e', _, hc', _⟩ := hPi k hkm
    have hv : v = ((D k : Nat) : Int) := by
      rw [hA] at e'
      cases e'
      have hc : W.cell? (ad.add k) = some (.int .i64 v) := hc
      rw [hc'] at hc
      injection hc with hc
      injection hc with _ hc
      exact hc.symm
    have hOn : One X n b m D (k + 1) S N := by rw [show m - i = k + 1 by omega] at hOn; exact hOn
    have hpos := HD.out.pos_lt hkm
    have HC := Lib.hid (laid1_any hL (HD.out.is k hkm).1 hpos (hOn.room HD.out HR.out.right hkm))
    have HS := Lib.hid (hOn.step HD.out hkm)
    have HLI := hLI
    subst hv
    clear hLI hL hOn hPi hc hc' e' hA hpos
    gi_wp2
    refine ⟨trivial, rfl, (CallsIn.inRound l (callsIn_wide.2 HC.out)).mono ?_⟩
    rintro e2 W2 ⟨rfl, hL2, hO2⟩
    have HL2 := HLI.out.two hL2 hO2 HS.out (fun d hd' => by cases hd') ky (by omega) kl
    have HL2' := Lib.hid HL2
    obtain ⟨_, _, _, _, _, hPi, _⟩ := HL2
    gi_wp2
    refine ⟨⟨hO2.less (fun q hq => ?_), ints_of_its hPi⟩, ?_⟩
    · rcases hq with rfl | rfl | rfl <;> exact ⟨by omega, by omega⟩
    · rw [show m - (i + 1) = k by omega]
      exact HL2'
  case done =>
    rintro D1 W hD1 hLI hk1
    rw [Nat.sub_self] at hLI
    obtain ⟨S, N, hL, hOn, hF, hPi, hB, hsz, _⟩ := hLI.out
    have hLa := hOn.done HD.out
    have hDl := (Array.getElem?_eq_some_iff.1 hk1).1
    have Ld := hL.drew
    obtain ⟨Wc, hC, hnx, hOc⟩ := int_copy_own (o := 0) (dm := b) (dc := cy) (m := b + 1) (c := b + 1) (k := b) (V := hdI X n) (ad := ⟨h, 0, none⟩) Ld.nx (Nat.min_eq_right (by omega)).symm (by omega) (fun j hj => by
      rw [Addr.add_mid, Nat.zero_add]
      exact Ld.row.hd_ (by omega))
    have u6 := Ld.v6
    have u2 := Ld.v2
    have u3 := Ld.row.c2
    rw [icells_congr (U := overI N 0 b (hdI X n)) (U' := hdI X n) (fun j hj => by unfold overI; rw [if_pos (by omega)]; rfl)] at hnx
    have hO2 : Off (fun q => q ≠ y) W Wc := (off_drew _ _).trans hOc
    have hkc : Wc.heap[D1]? = some (.deferred (some [])) := (hO2.block D1 hDl (by omega)).trans hk1
    obtain ⟨k0, hk0, hk0n, hTw, hLast⟩ := two_first hn0 HD.out hLa (N := hdI X n) (B := b) (fun x _ => rfl) HR.out.right
    have hLc : LIn w lo A n c X b g e h b5 b6 y cy P m D [D1] (fun S' N' => S' = S ∧ N' = hdI X n) Wc :=
      hLI.out.copied (S := S) (N := N) hL hO2 hnx ⟨rfl, rfl⟩ (fun d hd' => by
        obtain rfl : d = D1 := by simpa using hd'
        exact hkc) ky (by omega)
    have Lc := hL.new_nx hO2 hnx
    have HC2 := Lib.hid (laid2_any Lc (show n - 1 < n by omega) hk0n hk0)
    have x2 := Lc.v2
    have x0 := Lc.row.c0
    have hw1 : IntKind.i64.wrap ((n : Int) - 1) = ((n - 1 : Nat) : Int) := by rw [IntWalk.i64_in _ (by omega)]; omega
    have HLc := Lib.hid hLc
    have HTw := Lib.hid hTw
    have HLast := Lib.hid hLast
    have HLa := Lib.hid hLa
    have hsW : b6 + 3 ≤ W.heap.size := by omega
    have hsc := hO2.size
    clear hLI hL hOn hF hPi hB Ld hnx hOc hLc Lc hTw hLast hLa hk0 hO2 hk1
    gi_wp2
    gi_region
    gi_wp2
    refine ⟨trivial, rfl, (callsIn_wide.2 HC2.out).mono ?_⟩
    rintro e3 W3 ⟨rfl, hL3, hO3⟩
    have HL3 := Lib.hid (HLc.out.two (Φ' := fun S' N' => Two X n b S 0 S' N' ∧ HasLast n S') hL3 hO3 ⟨HTw.out, HLast.out⟩ (fun d hd' => by
        obtain rfl : d = D1 := by simpa using hd'
        omega) ky (by omega) kl)
    have y5 := hL3.v5
    clear HC2 HLc hkc hC x2 x0 u6 u2 u3 hw1 HTw HLast hO3 hL3
    gi_wp2
    gi_loopw [53] (fun v wr => ∃ i : Nat, i ≤ n ∧ v = .int .i64 (i : Int) ∧ Hid (LIn w lo A n c X b g e h b5 b6 y cy P m D [D1] (fun S' N' => Two X n b S i S' N' ∧ HasLast n S') wr)) (fun v _ => n - (intOf v).toNat)
    case atStart => exact ⟨0, Nat.zero_le _, rfl, HL3⟩
    case round =>
      clear HL3 y5
      obtain ⟨i, hi, rfl, hLr⟩ := hrel
      by_cases hlt : i < n
      · have hlti : (i : Int) < (n : Int) := by omega
        obtain ⟨S', N', hL4, ⟨hT4, hl4⟩, _⟩ := hLr.out
        have hc4 := hL4.sa_cell hlt
        have r2 := hL4.v2
        have r1 := hL4.row.c1
        rcases hT4.round HR.out.right hlt hl4 with ⟨hv, hT5, hl5⟩ | ⟨q, hq, hv, hu, hT5, hl5⟩ | ⟨q, k1, hq, hv, hu, hk1, hk1n, hT5, hl5⟩
        · have HL5 := Lib.hid (hLr.out.turn (Φ' := fun S' N' => Two X n b S (i + 1) S' N' ∧ HasLast n S') hL4 ⟨hT5, hl5⟩)
          clear hLr hL4 hT4 hl4 hT5 hl5
          rcases hv with hv | hv
          all_goals
            rw [hv] at hc4
            clear hv
            gi_wp2
            go_roundw
            case rel => exact ⟨i + 1, by omega, by go_num, HL5⟩
            case measure => simp [intOf]; omega
        · have HL5 := Lib.hid (hLr.out.turn (Φ' := fun S' N' => Two X n b S (i + 1) S' N' ∧ HasLast n S') hL4 ⟨hT5, hl5⟩)
          have hcu := hL4.row.up_ (p := q) (by omega)
          rw [hu] at hcu
          rw [hv] at hc4
          have hw2 : IntKind.i64.wrap (((q + 1 : Nat) : Int) - 1) = (q : Int) := by rw [IntWalk.i64_in _ (by omega)]; omega
          have d0 : (0 : Int) < ((q + 1 : Nat) : Int) := by omega
          have hqn : (q : Int) < (n : Int) := by omega
          obtain ⟨q1, hq1⟩ : ∃ q1, q + 1 = q1 := ⟨_, rfl⟩
          rw [hq1] at hw2 hc4 d0
          clear hLr hL4 hT4 hl4 hT5 hl5 hv hu hq hq1
          gi_wp2
          go_roundw
          case rel => exact ⟨i + 1, by omega, by go_num, HL5⟩
          case measure => simp [intOf]; omega
        · have HC := Lib.hid (laid2_any hL4 (show q < n by omega) hk1n hk1)
          have HT5 := Lib.hid (And.intro hT5 hl5)
          have hcu := hL4.row.up_ (p := q) (by omega)
          rw [hu] at hcu
          rw [hv] at hc4
          have hw2 : IntKind.i64.wrap (((q + 1 : Nat) : Int) - 1) = (q : Int) := by rw [IntWalk.i64_in _ (by omega)]; omega
          have d0 : (0 : Int) < ((q + 1 : Nat) : Int) := by omega
          have hqn : (q : Int) < (n : Int) := by omega
          obtain ⟨q1, hq1⟩ : ∃ q1, q + 1 = q1 := ⟨_, rfl⟩
          rw [hq1] at hw2 hc4 d0
          clear hL4 hT4 hl4 hT5 hl5 hv hu hq hq1 hk1
          gi_wp2
          refine ⟨trivial, rfl, (callsIn_wide.2 HC.out).mono ?_⟩
          rintro e4 W4 ⟨rfl, hL5, hO5⟩
          have HL5 := Lib.hid (hLr.out.two (Φ' := fun S' N' => Two X n b S (i + 1) S' N' ∧ HasLast n S') hL5 hO5 HT5.out (fun d hd' => by
            obtain rfl : d = D1 := by simpa using hd'
            omega) ky (by omega) kl)
          clear hL5 hO5 HC hc4 hcu hLr r1 r2
          gi_wp2
          go_roundw
          case rel => exact ⟨i + 1, by omega, by go_num, HL5⟩
          case measure => simp [intOf]; omega
      · have hin : i = n := by omega
        have hge : ¬ ((i : Int) < (n : Int)) := by omega
        rw [hin] at hLr
        obtain ⟨S3, N3, hL6, ⟨hT6, hl6⟩, hF6, hPi6, hB6, hsz6, hm6⟩ := hLr.out
        have h2 := hT6.all HR.out.right HLa.out hl6
        have HSo := Lib.hid (fun (Pp : Nat → Nat → Prop) (hP : Ord2 X n Pp) hDd => hT6.sorted HR.out.right HLa.out hP hDd)
        have hk6 := hm6 D1 (List.mem_singleton.2 rfl)
        have hD6 := (Array.getElem?_eq_some_iff.1 hk6).1
        have Ld := hL6.drew
        obtain ⟨Wd, hC, hnx, hOc⟩ := int_copy_own (o := 0) (dm := b) (dc := cy) (m := b) (c := b) (k := b) (V := fun x => hdI X n (x + 1)) (ad := ⟨h, 1, none⟩) Ld.nx (Nat.min_self b).symm (by omega) (fun j hj => by
          rw [Addr.add_mid, Nat.add_comm]
          exact Ld.row.hd_ (by omega))
        rw [icells_congr (U := overI N3 0 b (fun x => hdI X n (x + 1))) (U' := fun x => hdI X n (x + 1)) (fun j hj => by unfold overI; rw [if_pos (by omega)]; rfl)] at hnx
        have u6 := Ld.v6
        have u2 := Ld.v2
        have u3 := Ld.row.c2
        have hO2 : Off (fun q => q ≠ y) wr Wd := (off_drew _ _).trans hOc
        have hkd : Wd.heap[D1]? = some (.deferred (some [])) := (hO2.block D1 hD6 (by omega)).trans hk6
        have hLd : LIn w lo A n c X b g e h b5 b6 y cy P m D [D1] (Three X n b S3 n) Wd :=
          hLr.out.copied (S := S3) (N := N3) hL6 hO2 hnx (Three.start (fun x _ => rfl)) (fun d hd' => by
            obtain rfl : d = D1 := by simpa using hd'
            exact hkd) ky (by omega)
        have Lc := hL6.new_nx hO2 hnx
        have x5 := Lc.v5
        have hzd : Wd.heap.size = Wd.heap.size := rfl
        have HBk := Lib.hid (backward_any (some ⟨lo + 2, 0, none⟩) n n Wd)
        have HI := Lib.hid (ints_of_own Lc.sa)
        have HLd := Lib.hid hLd
        have H2 := Lib.hid h2
        have hszd : b6 + 2 ≤ Wd.heap.size := Nat.le_trans hsz6 hO2.size
        have hDd : D1 < Wd.heap.size := Nat.lt_of_lt_of_le hD6 hO2.size
        clear hLr hL6 hT6 hl6 hF6 hPi6 hB6 hm6 h2 Ld hnx hOc hO2 hLd Lc hk6
        gi_wp2
        gi_region
        gi_wp2
        refine ⟨trivial, rfl, (callsIn_wide.2 HBk.out).mono ?_⟩
        rintro e7 W7 ⟨rfl, hW7⟩
        obtain ⟨t, hzt⟩ : ∃ t, Wd.heap.size = t := ⟨_, rfl⟩
        rw [hzt] at hszd hDd ⊢
        have z7' : W7.heap.size = t + 1 := by rw [hW7, size_alloc, hzt]
        have k7' : Below t Wd W7 := by rw [hW7, ← hzt]; exact (Below.refl _ _).alloc (Nat.le_refl _) _
        have l7' : Lies W7 t 22 [.slice (some ⟨lo + 2, 0, none⟩) n n] := by rw [hW7, ← hzt]; exact lies_new Wd _ _
        gi_wp2
        rw [← hW7]
        have HL7 : LIn w lo A n c X b g e h b5 b6 y cy P m D [D1] (Three X n b S3 n) W7 := HLd.out.off (p := fun k => k < t) ⟨k7'.os, k7'.tape, k7'.output, k7'.size, fun k hk hp => k7'.block k hp⟩ (fun k hk => by omega) (fun d hd' => by
          obtain rfl : d = D1 := by simpa using hd'
          exact hDd) ky k5b kl
        have HI7 : IntsAt W7 (some ⟨lo + 2, 0, none⟩) n := fun j hj => by
          obtain ⟨ad, v, e, hc⟩ := HI.out j hj
          exact ⟨ad, v, e, (k7'.cell (by rw [← hzt]; exact cell_in hc)).trans hc⟩
        clear HLd HI HBk hkd x5 hC u6 u2 u3
        refine back_law (some ⟨lo + 2, 0, none⟩) n n t z7' (by omega) (by omega) (l7'.cell 0) HI7 rfl rfl
          (fun i W => Hid (LIn w lo A n c X b g e h b5 b6 y cy P m D [D1] (Three X n b S3 (n - i)) W)) ?inv2 (Lib.hid (by rw [Nat.sub_zero]; exact HL7)) (fun x => { tmps := #[.pointer (some ⟨g, 0, none⟩), .slice P m cp, .pointer (some ⟨lo, 0, none⟩), undef, .slice none 0 0, .pointer (some ⟨b5, 0, none⟩), .pointer (some ⟨b6, 0, none⟩), .pointer (some ⟨b6 + 1, 0, none⟩), undef, undef, .func (.func 118) #[] #[.pointer (some ⟨b5, 0, none⟩), .pointer (some ⟨b6, 0, none⟩), .pointer (some ⟨lo, 0, none⟩)], undef, u12, undef, .int .i64 x.2, .slice (some ⟨lo + 1, 0, none⟩) 1 1, .pointer (some ⟨g, 0, none⟩), .pointer (some ⟨g, 0, none⟩), .pointer (some ⟨g, 0, none⟩), .slice A n c, .int .i64 (n : Int), .slice (some ⟨lo + 2, 0, none⟩) n n, .pointer (some ⟨g, 0, none⟩), .pointer (some ⟨g, 0, none⟩), .pointer (some ⟨g, 2, none⟩), .slice (some ⟨h, 0, none⟩) (b + 1) (b + 1), .slice (some ⟨h, 1, none⟩) b b, .slice (some ⟨y, 0, none⟩) b cy, .func (.func 117) #[] #[.pointer (some ⟨b6, 0, none⟩), .pointer (some ⟨lo, 0, none⟩), .pointer (some ⟨b5, 0, none⟩)], .slice P m cp, .func (.func 52) #[] #[.pointer (some ⟨b6 + 2, 0, none⟩)], undef, undef, undef, undef, undef, .slice (some ⟨y, 0, none⟩) b cy, .pointer (some ⟨g, 0, none⟩), .pointer (some ⟨g, 0, none⟩), .pointer (some ⟨g, 2, none⟩), .slice (some ⟨h, 0, none⟩) (b + 1) (b + 1), .int .i64 (b : Int), .func (.func 118) #[] #[.pointer (some ⟨b5, 0, none⟩), .pointer (some ⟨b6, 0, none⟩), .pointer (some ⟨lo, 0, none⟩)], .func (.func 118) #[] #[.pointer (some ⟨b5, 0, none⟩), .pointer (some ⟨b6, 0, none⟩), .pointer (some ⟨lo, 0, none⟩)], .pointer (some ⟨g, 0, none⟩), .pointer (some ⟨g, 0, none⟩), .pointer (some ⟨g, 0, none⟩), .slice A n c, .int .i64 (n : Int), .int .i64 ((n - 1 : Nat) : Int), .tuple #[], .slice (some ⟨lo + 2, 0, none⟩) n n, .int .i64 (n : Int), .int .i64 (n : Int), .bool false, u55, u56, u57, u58, u59, u60, u61, u62, u63, u64, u65, u66, u67, u68, u69, u70, u71, u72, u73, u74, .slice (some ⟨y, 0, none⟩) b cy, .pointer (some ⟨g, 0, none⟩), .pointer (some ⟨g, 0, none⟩), .pointer (some ⟨g, 2, none⟩), .slice (some ⟨h, 0, none⟩) (b + 1) (b + 1), .slice (some ⟨h, 1, none⟩) b b, .int .i64 (b : Int), .slice (some ⟨lo + 2, 0, none⟩) n n, .func (.func 52) #[] #[.pointer (some ⟨t, 0, none⟩)], .int .i64 (x.1 : Int), .int .i64 x.2, undef, undef, undef, undef, undef, undef, undef, undef, undef, undef, undef, undef, undef, undef, undef, undef, undef], defers := [] }) ?assign2 ?body2 ?done2
        case inv2 =>
          intro i A1 A2 hi hg
          exact Lib.hid (hi.out.grown hg (by omega) (fun d hd' => by
            obtain rfl : d = D1 := by simpa using hd'
            omega) ky k5b kl)
        case assign2 =>
          intro l x W K hK
          gi_wp2
          exact hK
        case body2 =>
          rintro l i' ⟨k, v⟩ W hs hi' ⟨hx1, ad, hA, hc⟩ hLI
          have hx1 : k + i' + 1 = n := hx1
          have hc : W.cell? (ad.add k) = some (.int .i64 v) := hc
          cases hA
          obtain ⟨S', N', hL4, hT4, hF4, _⟩ := hLI.out
          have hT4 : Three X n b S3 (k + 1) S' N' := by rw [show n - i' = k + 1 by omega] at hT4; exact hT4
          have hkn : k < n := by omega
          have hv4 : v = S' k := by
            have := hL4.sa_cell hkn
            rw [Addr.add_mid, Nat.zero_add, this] at hc
            injection hc with hc
            injection hc with _ hc
            exact hc.symm
          clear hc
          have r2 := hL4.v2
          have r1 := hL4.row.c1
          have hsub : n - (i' + 1) = k := by omega
          rw [hsub]
          have hSt : ∀ W', LIn w lo A n c X b g e h b5 b6 y cy P m D [D1] (Three X n b S3 k) W' → IntsAt W' (some ⟨lo + 2, 0, none⟩) n := fun W' hl => by
            obtain ⟨_, _, hl, _⟩ := hl
            exact ints_of_own hl.sa
          rcases hT4.round H2.out HR.out.right hkn with ⟨hv, hT5⟩ | ⟨q, hq, hv, hu, hT5⟩ | ⟨q, k1, hq, hv, hu, hk1, hk1n, hT5⟩
          · have HL5 := Lib.hid (hLI.out.turn (Φ' := Three X n b S3 k) hL4 hT5)
            have HI5 := Lib.hid (hSt W HL5.out)
            rw [← hv4] at hv
            clear hLI hL4 hT4 hT5 hSt hv4
            rcases hv with rfl | rfl
            all_goals
              gi_wp2
              exact ⟨⟨Off.refl _ _, HI5.out⟩, HL5⟩
          · have HL5 := Lib.hid (hLI.out.turn (Φ' := Three X n b S3 k) hL4 hT5)
            have HI5 := Lib.hid (hSt W HL5.out)
            have hcu := hL4.row.up_ (p := q) (by omega)
            rw [hu] at hcu
            rw [← hv4] at hv
            have hw2 : IntKind.i64.wrap (((q + 1 : Nat) : Int) - 1) = (q : Int) := by rw [IntWalk.i64_in _ (by omega)]; omega
            have d0 : (0 : Int) < ((q + 1 : Nat) : Int) := by omega
            have hqn : (q : Int) < (n : Int) := by omega
            obtain ⟨q1, hq1⟩ : ∃ q1, q + 1 = q1 := ⟨_, rfl⟩
            rw [hq1] at hw2 hv d0
            subst hv
            clear hLI hL4 hT4 hT5 hu hq hq1 hSt hv4
            gi_wp2
            exact ⟨⟨Off.refl _ _, HI5.out⟩, HL5⟩
          · have HC := Lib.hid (laid1_any hL4 (show q < n by omega) hk1n hk1)
            have HT5 := Lib.hid hT5
            have hcu := hL4.row.up_ (p := q) (by omega)
            rw [hu] at hcu
            rw [← hv4] at hv
            have hw2 : IntKind.i64.wrap (((q + 1 : Nat) : Int) - 1) = (q : Int) := by rw [IntWalk.i64_in _ (by omega)]; omega
            have d0 : (0 : Int) < ((q + 1 : Nat) : Int) := by omega
            have hqn : (q : Int) < (n : Int) := by omega
            have HSt := Lib.hid hSt
            obtain ⟨q1, hq1⟩ : ∃ q1, q + 1 = q1 := ⟨_, rfl⟩
            rw [hq1] at hw2 hv d0
            subst hv
            clear hL4 hT4 hT5 hu hq hq1 hk1 hSt hv4
            gi_wp2
            refine ⟨trivial, rfl, (CallsIn.inRound l (callsIn_wide.2 HC.out)).mono ?_⟩
            rintro e4 W4 ⟨rfl, hL5, hO5⟩
            have HL5 := Lib.hid (hLI.out.two (Φ' := Three X n b S3 k) hL5 hO5 HT5.out (fun d hd' => by
              obtain rfl : d = D1 := by simpa using hd'
              omega) ky (by omega) kl)
            have HO5 := Lib.hid hO5
            clear hL5 hO5 HC hcu hLI r1 r2
            gi_wp2
            refine ⟨⟨HO5.out.less (fun q hq => ?_), HSt.out _ HL5.out⟩, HL5⟩
            rcases hq with rfl | rfl | rfl <;> exact ⟨by omega, by omega⟩
        case done2 =>
          rintro D2 W hD2 hLI hk2
          rw [Nat.sub_self] at hLI
          obtain ⟨S', N', hL4, hT4, hF4, hPi4, hB4, hsz4, hm4⟩ := hLI.out
          have hk1 := hm4 D1 (List.mem_singleton.2 rfl)
          have hD2l := (Array.getElem?_eq_some_iff.1 hk2).1
          have r5 := hL4.v5
          have HPost : Hid (LaidPost X n m D S') := Lib.hid fun Pp Qq hPp hQq hDd => hT4.all H2.out HR.out.right hQq (HSo.out Pp hPp hDd)
          have Hsa := Lib.hid hL4.sa
          have hMM : Marks (b6 + 2) W.heap.size ({ target := .collected D2, args := #[] } :: { target := .collected D1, args := #[] } :: []) W := ⟨D2, rfl, by omega, hD2l, hk2, D1, rfl, by omega, by omega, hk1, trivial⟩
          clear hLI hL4 hT4 hF4 hPi4 hm4
          gi_wp2
          exact hMM.out (by omega) fun w' hw' => ⟨.slice (some ⟨lo + 2, 0, none⟩) n n, by simp [results, Tryz.results99, go_sem], lo + 2, n, S', rfl, own_off Hsa.out (hw'.block (lo + 2) (by omega)), hB4.trans (hw'.mono (by omega)), HPost.out⟩
end Go.Proofs.YtbkdloebbbmkaaaGreat

namespace Go.Proofs.YtbkdloebbbmkaaaGreat
open Go.RowKit

set_option maxRecDepth 100000 in
set_option maxHeartbeats 1600000 in
theorem onlyDips_any {w : World} {T n c b g e h : Nat} {A : Option Addr} {X : Nat → Nat} (r : Rw w T A n c X b g e h) (hT : T ≤ w.heap.size) (Bp : Nat) (P : Option Addr) (k cp : Nat) (s : Nat → Nat) (hBp : Bp ≤ w.heap.size) (hk : k ≤ 4194304) (hs : ∀ j, j < k → s j < n) (hP : Its w Bp P k (fun j => ((s j : Nat) : Int))) :
    Calls Tryz.prog 98 #[.pointer (some ⟨g, 0, none⟩), .slice P k cp] w fun e' w' => ∃ (v : Value) (U : Nat → Int), e' = .returned v ∧ Picks (fun j => dip X n (s j)) s k U ∧
      w'.ownsRow w.heap.size 3 1 v (Pl.cnt (fun j => dip X n (s j)) k) (icells U (Pl.cnt (fun j => dip X n (s j)) k)) ∧ Below w.heap.size w w' := by
  obtain ⟨f, hf⟩ : ∃ f : Nat → Bool, (fun j => dip X n (s j)) = f := ⟨_, rfl⟩
  rw [hf]
  have HF := Lib.hid hf
  clear hf
  have HR := Lib.hid r
  have HP := Lib.hid hP
  have HS := Lib.hid hs
  obtain ⟨B, hB⟩ : ∃ B, w.heap.size = B := ⟨_, rfl⟩
  rw [hB] at hT hBp ⊢
  clear r hP hs
  go_enter Tryz.func98, Tryz.ntmps98
  go_wp2_with fail
  go_loopw [5, 10] (fun sl v wr => ∃ i : Nat, i ≤ k ∧ v = .int .i64 (i : Int) ∧ Hid (∃ U, Picks f s i U ∧ wr.ownsRow B 3 1 sl (Pl.cnt f i) (icells U (Pl.cnt f i))) ∧ Below B w wr) (fun _ v _ => k - (intOf v).toNat)
  case atStart => exact ⟨0, Nat.zero_le _, rfl, Lib.hid ⟨fun _ => 0, fun j hj => absurd hj (Nat.not_lt_zero j), World.ownsRow_nil _ _ _ _⟩, Below.refl _ _⟩
  case round =>
    obtain ⟨i, hi, rfl, hrow, hb⟩ := hrel
    have hbs := hb.size
    by_cases hlt : i < k
    · have hlti : (i : Int) < (k : Int) := by omega
      have hsn := HS.out i hlt
      obtain ⟨ad, rfl, _, hc0, _⟩ := HP.out.below (hb.mono hBp) i hlt
      have hc : wr.cell? (ad.add i) = some (.int .i64 ((s i : Nat) : Int)) := hc0
      clear hc0
      have hD := isDip_any (HR.out.below hb hT) hsn
      have hm := cnt_to f i
      obtain ⟨U, hU, hown⟩ := hrow.out
      have HU := Lib.hid hU
      have HO := Lib.hid hown
      obtain ⟨m, hmm⟩ : ∃ m, Pl.cnt f i = m := ⟨_, rfl⟩
      rw [hmm] at HO hm
      have HM := Lib.hid hmm
      have hBs : B ≤ wr.heap.size := by omega
      have hm4 : m ≤ 4194304 := by omega
      have hd0 : ∀ x : Bool, dip X n (s i) = x → f i = x := fun x e => by rw [← HF.out]; exact e
      cases hdp : dip X n (s i)
      · rw [hdp] at hD
        have HDp := Lib.hid (hd0 _ hdp)
        clear hU hown hmm hrow hdp hd0 hsn
        generalize s i = si at hc hD
        go_wp2_with (go_at_call 116; (with_reducible refine hD.mono ?_); rintro e w' ⟨rfl, rfl⟩)
        go_roundw
        case rel => exact ⟨i + 1, by omega, by go_num, Lib.hid ⟨U, HU.out.skip HDp.out, by rw [cnt_false HDp.out, HM.out]; exact HO.out⟩, hb⟩
        case measure => simp [intOf]; omega
      · rw [hdp] at hD
        have HDp := Lib.hid (hd0 _ hdp)
        obtain ⟨si, hsi⟩ : ∃ si, s i = si := ⟨_, rfl⟩
        rw [hsi] at hc hD
        have HSi := Lib.hid hsi
        clear hU hown hmm hrow hdp hd0 hsn hsi
        go_wp2_with (first
          | (go_at_call 116; (with_reducible refine hD.mono ?_); rintro e w' ⟨rfl, rfl⟩)
          | (at_builtin; refine step_append_int rfl (.tmp 17) (.tmp 19) rfl rfl HO.out (si : Int) rfl hBs hm4 ?_; intro v3 w3 hown3 hb3))
        go_roundw
        case rel => exact ⟨i + 1, by omega, by go_num, Lib.hid ⟨_, HU.out.take, by
          rw [cnt_true HDp.out, HM.out, ← icells_putI, HSi.out]
          exact hown3.out⟩, hb.trans hb3⟩
        case measure => simp [intOf]; omega
    · have hik : i = k := by omega
      have hge : ¬ (i : Int) < (k : Int) := by omega
      obtain ⟨U, hU, hown⟩ := hrow.out
      rw [hik] at hU hown
      have HU := Lib.hid hU
      have HO := Lib.hid hown
      clear hik hU hown hrow
      go_wp2_with fail
      go_ret
      exact ⟨_, rfl, U, HU.out, HO.out, hb⟩
theorem Its.congr_ {w : World} {B n : Nat} {A : Option Addr} {V V' : Nat → Int} (h : Its w B A n V) (e : ∀ k, k < n → V k = V' k) : Its w B A n V' := fun k hk => by
  have := h k hk
  rw [e k hk] at this
  exact this
/-- what ordered leaves. -/
def OrdPost (w : World) (X : Nat → Nat) (n : Nat) (e' : Ending) (w' : World) : Prop :=
  ∃ v s, e' = .returned v ∧ IsSA (xi X) n s ∧ w'.ownsRow w.heap.size 3 1 v n (icells (fun i => ((s i : Nat) : Int)) n) ∧ Below w.heap.size w w'
theorem laid_ord {X : Nat → Nat} {n m : Nat} {D : Nat → Nat} {S : Nat → Int} (h : LaidPost X n m D S) (ho : ∀ k l, k < l → l < m → SLess (xi X) n (D k) (D l)) : ∃ s, IsSA (xi X) n s ∧ ∀ i, i < n → S i = ((s i : Nat) : Int) := by
  obtain ⟨s, hs⟩ := h _ _ sless_ord2 sless_ord3 (fun k l hkl hl _ => sless_asymm (ho k l hkl hl))
  exact ⟨s, hs.isSA, hs.1⟩

set_option maxRecDepth 100000 in
set_option maxHeartbeats 3200000 in
theorem ordered_any : ∀ (n : Nat) (A : Option Addr) (c b : Nat) (X : Nat → Nat) (w : World), n ≤ 4194304 → b ≤ 4194304 → (A = none → n = 0 ∧ c = 0) → n ≤ c → c ≤ maxLen → (∀ p, p < n → X p < b) → Its w w.heap.size A n (xi X) →
    Calls Tryz.prog 66 #[.slice A n c, .int .i64 (b : Int)] w (OrdPost w X n) := by
  intro n
  induction n using Nat.strongRecOn with
  | ind n ih =>
  intro A c b X w hn hb hA hnc hcm hX ht
  unfold OrdPost
  rcases Nat.eq_zero_or_pos n with rfl | hn0
  · go_enter Tryz.func66, Tryz.ntmps66
    go_wp2_with fail
    go_ret
    exact ⟨_, rfl, fun i => i, ⟨fun i hi => absurd hi (Nat.not_lt_zero i), fun i j _ hj => absurd hj (Nat.not_lt_zero j)⟩, World.ownsRow_nil _ _ _ _, Below.refl _ _⟩
  · have HRo := Lib.hid (rowOf_any A n c b X w hn0 hn hb hnc hcm hX ht)
    have HIH := Lib.hid ih
    have hne0 : ¬ (n : Int) = 0 := by omega
    have hne1 : ((n : Int) == 0) = false := by rw [beq_eq_false_iff_ne]; omega
    clear ih ht
    go_enter Tryz.func66, Tryz.ntmps66
    go_wp2_with fail
    refine HRo.out.mono ?_
    rintro e1 w1 ⟨g, e, h, T, rfl, r1, hT1, k1⟩
    have HD1 := Lib.hid (dips_any r1 hT1)
    have HR1 := Lib.hid r1
    clear HRo r1
    go_wp2_with fail
    refine HD1.out.mono ?_
    rintro e1 w2 ⟨v2, U2, rfl, hU2, ho2, k2⟩
    obtain ⟨hdu, hdv⟩ := picks_up hU2
    obtain ⟨m, hm⟩ : ∃ m, Pl.cnt (dip X n) n = m := ⟨_, rfl⟩
    obtain ⟨d, hd⟩ : ∃ d : Nat → Nat, (fun c => (U2 c).toNat) = d := ⟨_, rfl⟩
    rw [hm] at hdu hdv ho2
    rw [hd] at hdu
    have hmn : m < n := by
      have h1 := pigeon n m (fun p => decide (p ≠ 0)) d (fun i hi => ⟨(hdu.is i hi).1, by
        have := (dip_is (hdu.is i hi).2).1
        simp; omega⟩) hdu.inj
      have h2 : Pl.cnt (fun p => decide (p ≠ 0)) n + 1 ≤ n := by
        have h3 := cnt_split (fun _ => true) (fun p => decide (p ≠ 0)) n
        have h4 := cnt_all (fun _ => true) n (fun _ _ => rfl)
        have h5 := pigeon n 1 (fun j => true && !decide (j ≠ 0)) (fun _ => 0) (fun i hi => ⟨hn0, by simp⟩) (fun i j hi hj _ => by omega)
        have h6 : Pl.cnt (fun j => true && decide (j ≠ 0)) n = Pl.cnt (fun p => decide (p ≠ 0)) n := by congr 1
        omega
      omega
    have hU2d : ∀ k, k < m → U2 k = ((d k : Nat) : Int) := fun k hk => by rw [← hd]; exact hdv k hk
    have hsmall : ∀ k, k < m → d k < n := fun k hk => (hdu.is k hk).1
    obtain ⟨P, cp, rfl, hP⟩ := ItsR.of_own ho2 (fun i hi => by
      rw [hU2d i hi]
      have := hsmall i hi
      omega)
    have hPd := hP.2.2.2.congr_ hU2d
    have hT2 : T ≤ w2.heap.size := Nat.le_trans hT1 k2.size
    have r2 := HR1.out.below k2 hT1
    have HL2 := Lib.hid (sLaid_any r2 hT2 P m cp d hdu.toDips hPd)
    have HDu := Lib.hid hdu
    have HP := Lib.hid hPd
    have hc0P := hP.1
    clear HD1 hU2 ho2 hdv hd hU2d hP hPd r2
    go_wp2_with fail
    refine HL2.out.mono ?_
    rintro e1 w3 ⟨g3, c3, S3, rfl, ho3, k3, hS3⟩
    obtain ⟨s, hs⟩ := hS3 _ _ ahead_ord2 ahead_ord3 (ahead_dips HDu.out.toDips)
    have hPs : Its w3 w3.heap.size (some ⟨g3, 0, none⟩) n (fun j => ((s j : Nat) : Int)) := by
      obtain ⟨A', c', e', hI⟩ := ItsR.of_own ho3 (fun i hi => by
        rw [hs.1 i hi]
        have := hs.2.1 i hi
        omega)
      cases e'
      exact hI.2.2.2.congr_ hs.1
    have r3 := (HR1.out.below k2 hT1).below k3 hT2
    have hT3 : T ≤ w3.heap.size := Nat.le_trans hT2 k3.size
    have HO3 := Lib.hid (onlyDips_any r3 hT3 w3.heap.size (some ⟨g3, 0, none⟩) n c3 s (Nat.le_refl _) hn hs.2.1 hPs)
    have HSs := Lib.hid hs
    clear HL2 hS3 ho3 hPs r3 hs
    go_wp2_with fail
    refine HO3.out.mono ?_
    rintro e1 w4 ⟨v4, U4, rfl, hU4, ho4, k4⟩
    obtain ⟨hD4, hv4, hor⟩ := picks_dips HSs.out hU4
    have hmm := hD4.many.trans HDu.out.toDips.many.symm
    rw [hmm] at hD4 hv4 hor ho4
    obtain ⟨σ, hσ, hO⟩ := dipOrd_of HDu.out hD4 hor
    have hσ : ∀ j, j < m → (U4 j).toNat = d (σ j) := hσ
    have hUσ : ∀ j, j < m → U4 j = ((d (σ j) : Nat) : Int) := fun j hj => by rw [hv4 j hj, hσ j hj]
    obtain ⟨Qs, cq, rfl, hQ⟩ := ItsR.of_own ho4 (fun i hi => by
      rw [hUσ i hi]
      have := hsmall (σ i) (hO.lt i hi)
      omega)
    have hQd := hQ.2.2.2.congr_ hUσ
    have hT4 : T ≤ w4.heap.size := Nat.le_trans hT3 k4.size
    have r4 := ((HR1.out.below k2 hT1).below k3 hT2).below k4 hT3
    have s3 := k3.size
    have s4 := k4.size
    have hP4 : Its w4 w2.heap.size P m (fun k => ((d k : Nat) : Int)) := (HP.out.below k3).below (k4.mono s3)
    have HN := Lib.hid (named_any r4 hT4 hO P Qs cp cq (hP4.mono_ (by omega)) hQd)
    have HOr := Lib.hid hO
    have HO4 := Lib.hid ho4
    have HUσ := Lib.hid hUσ
    have HQd := Lib.hid hQd
    clear HO3 hU4 hD4 hv4 hor hσ hO hQ hQd r4 hP4 ho4 hUσ HSs
    go_wp2_with fail
    refine HN.out.mono ?_
    rintro e1 w5 ⟨g5, Y, rfl, hN, ho5, k5⟩
    have s5 := k5.size
    have hlo := unl_to (X := X) (m := m) (d := d) (σ := σ) m
    obtain ⟨u, hu⟩ : ∃ u, unl X m d σ m = u := ⟨_, rfl⟩
    have HYb := Lib.hid (HOr.out.below hN)
    have HYo := Lib.hid (HOr.out.order hN)
    have HUn := Lib.hid (fun hle => HOr.out.unlike hle)
    rw [hu] at hlo HYb HUn ⊢
    have hT5 : T ≤ w5.heap.size := Nat.le_trans hT4 k5.size
    have r5 := (((HR1.out.below k2 hT1).below k3 hT2).below k4 hT3).below k5 hT4
    clear HN hN hu
    by_cases hlt : u < m
    · have hltu : (u : Int) < (m : Int) := by omega
      have h5 : Its w5 w5.heap.size (some ⟨g5, 0, none⟩) m (xi Y) := by
        obtain ⟨A', c', e', hI⟩ := ItsR.of_own ho5 (fun i hi => by
          have := HYb.out i hi
          show -9223372036854775808 ≤ ((Y i : Nat) : Int) ∧ ((Y i : Nat) : Int) ≤ 9223372036854775807
          omega)
        cases e'
        exact hI.2.2.2
      have HI5 := Lib.hid (HIH.out m hmn (some ⟨g5, 0, none⟩) m u Y w5 (by omega) (by omega) (fun e' => by cases e') (Nat.le_refl _) (by unfold maxLen; omega) HYb.out h5)
      have HR5 := Lib.hid r5
      clear h5 ho5 r5
      go_wp2_with fail
      refine HI5.out.mono ?_
      rintro e1 w6 ⟨v6, y, rfl, hy, ho6, k6⟩
      have s6 := k6.size
      obtain ⟨q, cq', e', hq1, hq2, hq3, hq4⟩ := owns_some HO4.out (show 0 < m by omega)
      cases e'
      obtain ⟨y6, c6, rfl, hy1, hy2, _, _⟩ := owns_some ho6 (show 0 < m by omega)
      have ho46 : w6.ownsRow w3.heap.size 3 1 (.slice (some ⟨q, 0, none⟩) m cq) m (icells U4 m) := own_off HO4.out ((k6.block q (by omega)).trans (k5.block q hq2))
      have hcy : ∀ j, j < m → w6.cell? ⟨y6, j, none⟩ = some (.int .i64 ((y j : Nat) : Int)) := fun j hj => by
        rw [ho6.cellAt j (by omega)]
        exact icells_at (fun i => ((y i : Nat) : Int)) m j hj
      have HCy := Lib.hid hcy
      have HY := Lib.hid hy
      have L0 : Hid (∃ Z, w6.ownsRow w3.heap.size 3 1 (.slice (some ⟨q, 0, none⟩) m cq) m (icells Z m) ∧ ∀ j, j < 0 → Z j = ((d (y j) : Nat) : Int)) := Lib.hid ⟨U4, ho46, fun j hj => absurd hj (Nat.not_lt_zero j)⟩
      clear HI5 hy ho6 ho46 hcy
      go_wp2_with fail
      go_loopw [40] (fun s wr => ∃ k : Nat, k ≤ m ∧ s = .int .i64 (k : Int) ∧ Hid (∃ Z, wr.ownsRow w3.heap.size 3 1 (.slice (some ⟨q, 0, none⟩) m cq) m (icells Z m) ∧ ∀ j, j < k → Z j = ((d (y j) : Nat) : Int)) ∧ Hid (Off (fun z => z ≠ q) w6 wr)) (fun s _ => m - (intOf s).toNat)
      case atStart => exact ⟨0, Nat.zero_le _, rfl, L0, Lib.hid (Off.refl _ _)⟩
      case round =>
        clear L0
        obtain ⟨k, hk, rfl, hZ, hOf⟩ := hrel
        have s7 := hOf.out.size
        have k7 : Below w3.heap.size w6 wr := hOf.out.below (by omega) (fun z hz => by omega)
        by_cases hlk : k < m
        · have hltk : (k : Int) < (m : Int) := by omega
          obtain ⟨Z, hZo, hZj⟩ := hZ.out
          have hyk := HY.out.1 k hlk
          have cy := hOf.out.cell (HCy.out k hlk) (show y6 ≠ q by omega)
          have hPr : Its wr w2.heap.size P m (fun k => ((d k : Nat) : Int)) := ((((HP.out.below k3).below (k4.mono s3)).below (k5.mono (by omega))).below (k6.mono (by omega))).below (k7.mono s3)
          obtain ⟨pd, rfl, _, hcp0, _⟩ := hPr (y k) hyk
          have hcp : wr.cell? (pd.add (y k)) = some (.int .i64 ((d (y k) : Nat) : Int)) := hcp0
          clear hcp0
          have hcq : wr.cell? ⟨q, k, none⟩ = some (.int .i64 (Z k)) := by
            rw [hZo.cellAt k (by omega)]
            exact icells_at Z m k hlk
          have hfq := owns_free hZo k
          have hym : ((y k : Nat) : Int) < (m : Int) := by omega
          have HZ2 : Hid (∃ Z', (wr.setCell ⟨q, k, none⟩ (.int .i64 ((d (y k) : Nat) : Int))).ownsRow w3.heap.size 3 1 (.slice (some ⟨q, 0, none⟩) m cq) m (icells Z' m) ∧ ∀ j, j < k + 1 → Z' j = ((d (y j) : Nat) : Int)) := Lib.hid ⟨putI Z k ((d (y k) : Nat) : Int), by
            have := owns_put hZo k (.int .i64 ((d (y k) : Nat) : Int))
            rw [icells_put] at this
            exact this, fun j hj => by
            by_cases e : j = k
            · rw [e, putI_at]
            · rw [putI_off _ e]
              exact hZj j (by omega)⟩
          have HOf2 : Hid (Off (fun z => z ≠ q) w6 (wr.setCell ⟨q, k, none⟩ (.int .i64 ((d (y k) : Nat) : Int)))) := Lib.hid (hOf.out.trans (Off.setCell (fun hh => hh rfl) _))
          clear hZo hZj hZ hOf hPr hyk k7 s7
          generalize d (y k) = dk at *
          generalize y k = yk at *
          generalize Z k = zk at *
          go_wp2_with fail
          go_roundw
          case rel => exact ⟨k + 1, by omega, by go_num, HZ2, HOf2⟩
          case measure => simp [intOf]; omega
        · have hkm : k = m := by omega
          have hge : ¬ (k : Int) < (m : Int) := by omega
          rw [hkm] at hZ
          obtain ⟨Z, hZo, hZj⟩ := hZ.out
          have hI : Its wr wr.heap.size (some ⟨q, 0, none⟩) m (fun j => ((d (y j) : Nat) : Int)) := by
            obtain ⟨A', c', e', hI⟩ := ItsR.of_own hZo (fun i hi => by
              rw [hZj i hi]
              have := hsmall (y i) (HY.out.1 i hi)
              omega)
            cases e'
            exact hI.2.2.2.congr_ hZj
          have k57 : Below w3.heap.size w5 wr := (k6.mono (by omega)).trans k7
          have rr := HR5.out.below k57 hT3
          have hDy := dips_of HDu.out.toDips HY.out.1 (fun i j hi hj e => HY.out.inj hi hj e)
          have HLf := Lib.hid (sLaid_any rr (by omega) (some ⟨q, 0, none⟩) m cq (fun j => d (y j)) hDy hI)
          have HOrd := Lib.hid (fun k l (hkl : k < l) (hl : l < m) => HYo.out (y k) (y l) (HY.out.1 k (by omega)) (HY.out.1 l hl) (HY.out.2 k l hkl hl))
          have HBf : Hid (Below w.heap.size w wr) := Lib.hid (k1.trans ((k2.mono k1.size).trans ((k3.mono (by have := k1.size; have := k2.size; omega)).trans ((k4.mono (by have := k1.size; have := k2.size; omega)).trans ((k5.mono (by have := k1.size; have := k2.size; omega)).trans (k57.mono (by have := k1.size; have := k2.size; omega)))))))
          have hsz : w.heap.size ≤ wr.heap.size := HBf.out.size
          clear hkm hZ hZo hZj hI rr hDy
          go_wp2_with fail
          refine HLf.out.mono ?_
          rintro e1 w8 ⟨g8, c8, S8, rfl, ho8, k8, hS8⟩
          obtain ⟨s8, hs8, he8⟩ := laid_ord hS8 HOrd.out
          have HF : Hid (w8.ownsRow w.heap.size 3 1 (.slice (some ⟨g8, 0, none⟩) n c8) n (icells (fun i => ((s8 i : Nat) : Int)) n)) := Lib.hid (by
            rw [← icells_congr (U := S8) he8]
            exact own_base ho8 (Nat.le_trans hsz (ho8.lt g8 rfl).1))
          have HBf8 := Lib.hid (HBf.out.trans (k8.mono hsz))
          have HS8 := Lib.hid hs8
          clear ho8 hS8 hs8 he8
          go_wp2_with fail
          go_ret
          exact ⟨_, s8, rfl, HS8.out, HF.out, HBf8.out⟩
    · have hltu : ¬ (u : Int) < (m : Int) := by omega
      have hQ5 : Its w5 w5.heap.size Qs m (fun j => ((d (σ j) : Nat) : Int)) := (HQd.out.below k5).mono_ s5
      have hDσ := dips_of HDu.out.toDips HOr.out.lt HOr.out.inj
      have HLf := Lib.hid (sLaid_any r5 hT5 Qs m cq (fun j => d (σ j)) hDσ hQ5)
      have HOrd := Lib.hid (HUn.out (by omega))
      have HBf : Hid (Below w.heap.size w w5) := Lib.hid (k1.trans ((k2.mono k1.size).trans ((k3.mono (by have := k1.size; have := k2.size; omega)).trans ((k4.mono (by have := k1.size; have := k2.size; omega)).trans (k5.mono (by have := k1.size; have := k2.size; omega))))))
      have hsz : w.heap.size ≤ w5.heap.size := HBf.out.size
      clear ho5 r5 hQ5 hDσ
      go_wp2_with fail
      refine HLf.out.mono ?_
      rintro e1 w8 ⟨g8, c8, S8, rfl, ho8, k8, hS8⟩
      obtain ⟨s8, hs8, he8⟩ := laid_ord hS8 HOrd.out
      have HF : Hid (w8.ownsRow w.heap.size 3 1 (.slice (some ⟨g8, 0, none⟩) n c8) n (icells (fun i => ((s8 i : Nat) : Int)) n)) := Lib.hid (by
        rw [← icells_congr (U := S8) he8]
        exact own_base ho8 (Nat.le_trans hsz (ho8.lt g8 rfl).1))
      have HBf8 := Lib.hid (HBf.out.trans (k8.mono hsz))
      have HS8 := Lib.hid hs8
      clear ho8 hS8 hs8 he8
      go_wp2_with fail
      go_ret
      exact ⟨_, s8, rfl, HS8.out, HF.out, HBf8.out⟩
end Go.Proofs.YtbkdloebbbmkaaaGreat

namespace Go.Proofs.YtbkdloebbbmkaaaGreat
open Go.RowKit

end Go.Proofs.YtbkdloebbbmkaaaGreat

namespace Go.Proofs.YtbkdloebbbmkaaaGreat
open Go.RowKit Go.Shelf

set_option maxRecDepth 100000 in
set_option maxHeartbeats 3200000 in
theorem ranked_any (A : Option Addr) (n c : Nat) (V : Nat → Int) (w : World) (hn : n ≤ 4194304) (ho : Its w w.heap.size A n V) :
    Calls Tryz.prog 67 #[.slice A n c] w fun e w' => ∃ g, e = .returned (.slice (some ⟨g, 0, none⟩) n n) ∧ w.heap.size ≤ g ∧ Lies w' g 3 (icells (xi (rkN V n)) n) ∧ Below w.heap.size w w' := by
  have HO := Lib.hid ho
  obtain ⟨lo, hlo⟩ : ∃ lo, w.heap.size = lo := ⟨_, rfl⟩
  rw [hlo] at HO ⊢
  have HVa := Lib.hid (values_any A n c w)
  obtain ⟨w1, hw1⟩ : ∃ w1, w.alloc (.cells #[.slice A n c] 22) = w1 := ⟨_, rfl⟩
  have z1 : w1.heap.size = lo + 1 := by rw [← hw1, size_alloc, hlo]
  have k1 : Below lo w w1 := by rw [← hw1, ← hlo]; exact (Below.refl _ _).alloc (Nat.le_refl _) _
  have l1 : Lies w1 lo 22 [.slice A n c] := by rw [← hw1, ← hlo]; exact lies_new w _ _
  have HSo := Lib.hid (sorted_any A n c lo V w1 hn (by omega) (l1.cell 0) ((HO.out.below k1).mono_ (by omega)))
  rw [hlo, hw1] at HVa
  rw [z1] at HSo
  clear ho l1 hw1
  go_enter Tryz.func67, Tryz.ntmps67
  go_wp2_with fail
  refine HVa.out.mono ?_
  rintro e w2 ⟨rfl, rfl⟩
  clear HVa
  go_wp2_with fail
  refine HSo.out.mono ?_
  rintro e w3 ⟨v3, rfl, h3, k3⟩
  have K3 : Below lo w w3 := k1.trans (k3.mono (by omega))
  have HS3 := Lib.hid h3
  obtain ⟨a, za⟩ : ∃ a, w3.heap.size = a := ⟨_, rfl⟩
  have hal : lo + 1 ≤ a := by have := k3.size; omega
  have hMk := make_ints0 w3 n hn
  rw [za] at hMk
  obtain ⟨w4, hw4⟩ : ∃ w4, w3.alloc (.cells (icells (fun _ => 0) n).toArray 3) = w4 := ⟨_, rfl⟩
  have k4 : Below a w3 w4 := by rw [← hw4, ← za]; exact (Below.refl _ _).alloc (Nat.le_refl _) _
  have l4 : Lies w4 a 3 (icells (fun _ => 0) n) := by rw [← hw4, ← za]; exact lies_new w3 _ _
  rw [hw4] at hMk
  have K4 : Below lo w w4 := K3.trans (k4.mono (by omega))
  clear HSo h3 hw4
  go_wp2_with fail
  go_loopw [15] (fun s wr => ∃ i : Nat, i ≤ n ∧ s = .int .i64 (i : Int) ∧ Hid (∃ U, Lies wr a 3 (icells U n) ∧ ∀ j, j < i → U j = ((rkN V n j : Nat) : Int)) ∧ Hid (Below a w3 wr) ∧ Hid (Below lo w wr)) (fun s _ => n - (intOf s).toNat)
  case atStart => exact ⟨0, Nat.zero_le _, rfl, Lib.hid ⟨_, l4, fun j hj => absurd hj (Nat.not_lt_zero j)⟩, Lib.hid k4, Lib.hid K4⟩
  case round =>
    clear l4 k4 K4 hMk
    obtain ⟨i, hi, rfl, hU, hb, hB⟩ := hrel
    by_cases hlt : i < n
    · have hlti : (i : Int) < (n : Int) := by omega
      obtain ⟨U, hL, hUj⟩ := hU.out
      obtain ⟨ad, rfl, _, hc, _⟩ := HO.out.below hB.out i hlt
      obtain ⟨g, cg, ys, rfl, hg1, hg2, hyl, hyp, hys, hyc⟩ := HS3.out.2 (by omega)
      rw [za] at hg2
      have hS : ∀ x : Int, Calls Tryz.prog 103 #[.slice (some ⟨g, 0, none⟩) n cg, .int .i64 x] wr fun e w' => ∃ bx, e = .returned (.tuple #[.int .i64 ((Pl.cnt (fun q => decide (V q < x)) n : Nat) : Int), .bool bx]) ∧ ∃ q, w' = wr.drewN q := fun x => by
        have h := Any.slices_BinarySearch_int searchLays g 0 n cg ys x wr (by omega) (by omega) (fun j hj => by
          rw [Nat.zero_add]
          exact (hb.out.cell (p := ⟨g, j, none⟩) hg2).trans (hyc j (by omega))) (by rw [List.take_of_length_le (by omega)]; exact hys)
        refine Calls.mono h ?_
        rintro e w' ⟨rfl, q, rfl⟩
        refine ⟨(List.take n ys).contains x, ?_, q, rfl⟩
        rw [List.take_of_length_le (by omega), hyp.countP_eq, countP_cnt]
      have hcell : ∀ q, (wr.drewN q).cell? ⟨a, i, none⟩ = some (.int .i64 (U i)) := fun q => by
        have := hL.cell i
        rw [icells_at _ _ _ hlt] at this
        exact this
      have hfree : ∀ q, (wr.drewN q).frozen? ⟨a, i, none⟩ = false := fun q => hL.free i
      have HU2 : ∀ q, Hid (∃ U', Lies ((wr.drewN q).setCell ⟨a, i, none⟩ (.int .i64 ((rkN V n i : Nat) : Int))) a 3 (icells U' n) ∧ ∀ j, j < i + 1 → U' j = ((rkN V n j : Nat) : Int)) := fun q => Lib.hid ⟨putI U i ((rkN V n i : Nat) : Int), by
        have := (hL.drewN q).put i (.int .i64 ((rkN V n i : Nat) : Int))
        rw [icells_put] at this
        exact this, fun j hj => by
        by_cases e : j = i
        · rw [e, putI_at]
        · rw [putI_off _ e]
          exact hUj j (by omega)⟩
      have HB2 : ∀ q, Hid (Below a w3 ((wr.drewN q).setCell ⟨a, i, none⟩ (.int .i64 ((rkN V n i : Nat) : Int)))) := fun q => Lib.hid ((below_drewN' hb.out q).setCell (p := ⟨a, i, none⟩) (Nat.le_refl _) _)
      have HB3 : ∀ q, Hid (Below lo w ((wr.drewN q).setCell ⟨a, i, none⟩ (.int .i64 ((rkN V n i : Nat) : Int)))) := fun q => Lib.hid ((below_drewN' hB.out q).setCell (p := ⟨a, i, none⟩) (by show lo ≤ a; omega) _)
      have hSi := Lib.hid (hS (V i))
      have hrk : Pl.cnt (fun q => decide (V q < V i)) n = rkN V n i := rfl
      rw [hrk] at hSi
      clear hU hb hB hL hUj hyp hys hyc hS hrk
      generalize rkN V n i = rk at *
      generalize V i = vi at *
      generalize U i = ui at *
      go_wp2_with fail
      refine hSi.out.mono ?_
      rintro e w' ⟨bx, rfl, q, rfl⟩
      go_wp2_with fail
      go_roundw
      case rel => exact ⟨i + 1, by omega, by go_num, HU2 _, HB2 _, HB3 _⟩
      case measure => simp [intOf]; omega
    · have hin : i = n := by omega
      have hge : ¬ (i : Int) < (n : Int) := by omega
      rw [hin] at hU
      have HF : Hid (Lies wr a 3 (icells (xi (rkN V n)) n) ∧ Below lo w wr) := Lib.hid (by
        obtain ⟨U, hL, hUj⟩ := hU.out
        refine ⟨?_, hB.out⟩
        rw [← icells_congr (U := U) (U' := xi (rkN V n)) hUj]
        exact hL)
      clear hin hU hb hB
      go_wp2_with fail
      go_ret
      exact ⟨a, rfl, by omega, HF.out.1, HF.out.2⟩

set_option maxRecDepth 100000 in
set_option maxHeartbeats 3200000 in
theorem array_any (A : Option Addr) (n c : Nat) (V : Nat → Int) (al : Int) (w : World) (hn : n ≤ maxLen) (hA : A = none → n = 0 ∧ c = 0) (hnc : n ≤ c) (hcm : c ≤ maxLen) (ho : Its w w.heap.size A n V) :
    Calls Tryz.prog 44 #[.slice A n c, .int .i64 al] w (ArrayPost w n V al) := by
  unfold ArrayPost
  have HO := Lib.hid ho
  by_cases hR : RightS V n al
  · obtain ⟨⟨h0, h1, h2⟩, hV⟩ := hR
    obtain ⟨b, rfl⟩ : ∃ b : Nat, al = (b : Int) := ⟨al.toNat, by omega⟩
    have HR := Lib.hid (show RightS V n (b : Int) from ⟨⟨h0, h1, h2⟩, hV⟩)
    have HFt := Lib.hid (sufFit_is A n c V (b : Int) w.heap.size w hn ho true ⟨fun _ => ⟨⟨h0, h1, h2⟩, hV⟩, fun _ => rfl⟩)
    have fin : ∀ (w9 : World) (v : Value) (s : Nat → Nat), IsSA V n s → w.heap.size ≤ w9.heap.size → w9.ownsRow w.heap.size 3 1 v n (icells (fun i => ((s i : Nat) : Int)) n) → ∃ (A' : Option Addr) (c' : Nat), v = .slice A' n c' ∧ Fresh w A' n ∧ ItsR w9 A' n c' (fun i => ((s i : Nat) : Int)) := fun w9 v s hs _ hown => by
      obtain ⟨A', c', rfl, hI⟩ := ItsR.of_own hown (fun i hi => by
        have := hs.1 i hi
        show -9223372036854775808 ≤ ((s i : Nat) : Int) ∧ ((s i : Nat) : Int) ≤ 9223372036854775807
        omega)
      refine ⟨A', c', rfl, fun hn0 ad e => ?_, hI⟩
      subst e
      exact (hown.lt ad.block (by
        obtain ⟨g, c2, e2, _⟩ := owns_some hown hn0
        cases e2
        rfl)).1
    have HFin := Lib.hid fin
    by_cases hb : n < b
    · have hbn : (n : Int) < (b : Int) := by omega
      have HRk := Lib.hid (ranked_any A n c V w h2 ho)
      clear ho fin
      go_enter Tryz.func44, Tryz.ntmps44
      go_wp2_with fail
      refine HFt.out.mono ?_
      rintro e w1 ⟨rfl, rfl⟩
      clear HFt
      go_wp2_with fail
      refine HRk.out.mono ?_
      rintro e w2 ⟨g, rfl, hg, l2, k2⟩
      have i2 : Its w2 w2.heap.size (some ⟨g, 0, none⟩) n (xi (rkN V n)) := fun k hk => ⟨_, rfl, l2.lt, by
        rw [Addr.add_mid, Nat.zero_add, l2.cell]
        exact icells_at _ _ _ hk, by
        have := rkN_lt (V := V) hk
        show -9223372036854775808 ≤ ((rkN V n k : Nat) : Int) ∧ ((rkN V n k : Nat) : Int) ≤ 9223372036854775807
        omega⟩
      have HOr := Lib.hid (ordered_any n (some ⟨g, 0, none⟩) n n (rkN V n) w2 h2 h2 (fun e => by cases e) (Nat.le_refl _) hn (fun p hp => rkN_lt hp) i2)
      clear HRk l2 i2
      go_wp2_with fail
      refine HOr.out.mono ?_
      rintro e w3 ⟨v, s, rfl, hs, hown, k3⟩
      have hs' : IsSA V n s := hs.mapped (fun i j hi hj => (rkN_iff hi hj).symm)
      have hK : Below w.heap.size w w3 := k2.trans (k3.mono k2.size)
      obtain ⟨A', c', rfl, hF, hI⟩ := HFin.out w3 v s hs' hK.size (own_less hown k2.size)
      have HFI := Lib.hid (And.intro hF hI)
      have HS := Lib.hid hs'
      clear HOr hs hs' hown hF hI
      go_wp2_with fail
      go_ret2
      exact ⟨fun _ => ⟨A', c', s, rfl, HS.out, HFI.out.1, HFI.out.2⟩, fun h => absurd HR.out h, hK⟩
    · have hbn : ¬ (n : Int) < (b : Int) := by omega
      have hVx : ∀ k, k < n → V k = xi (fun p => (V p).toNat) k := fun k hk => by
        have := (hV k hk).1
        show V k = (((V k).toNat : Nat) : Int)
        omega
      have HOr := Lib.hid (ordered_any n A c b (fun p => (V p).toNat) w h2 (by omega) hA hnc hcm (fun p hp => by have := hV p hp; show (V p).toNat < b; omega) (ho.congr_ hVx))
      have HVx := Lib.hid hVx
      clear ho fin hVx
      go_enter Tryz.func44, Tryz.ntmps44
      go_wp2_with fail
      refine HFt.out.mono ?_
      rintro e w1 ⟨rfl, rfl⟩
      clear HFt
      go_wp2_with fail
      refine HOr.out.mono ?_
      rintro e w3 ⟨v, s, rfl, hs, hown, k3⟩
      have hs' : IsSA V n s := hs.mapped (fun i j hi hj => by rw [HVx.out i hi, HVx.out j hj])
      obtain ⟨A', c', rfl, hF, hI⟩ := HFin.out w3 v s hs' k3.size hown
      have HFI := Lib.hid (And.intro hF hI)
      have HS := Lib.hid hs'
      clear HOr hs hs' hown hF hI
      go_wp2_with fail
      go_ret2
      exact ⟨fun _ => ⟨A', c', s, rfl, HS.out, HFI.out.1, HFI.out.2⟩, fun h => absurd HR.out h, k3⟩
  · have HR := Lib.hid hR
    have HFt := Lib.hid (sufFit_is A n c V al w.heap.size w hn ho false ⟨fun e => (by cases e), fun h => absurd h hR⟩)
    clear ho hR
    go_enter Tryz.func44, Tryz.ntmps44
    go_wp2_with fail
    refine HFt.out.mono ?_
    rintro e w1 ⟨rfl, rfl⟩
    go_wp2_with fail
    go_ret2
    exact ⟨fun h => absurd h HR.out, fun _ => ⟨none, 0, rfl⟩, Below.refl _ _⟩
end Go.Proofs.YtbkdloebbbmkaaaGreat
