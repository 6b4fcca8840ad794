/- The contract of the document's Open for layer 6: which bytes are an image, and of which sections. -/
import Derived.Test.YtbepoohphmicdaaDoorImgRef
import Derived.Lib.SmallJoins
import Derived.Test.YtbepoohphmicdaaDoorCrcFirst
namespace Go.Proofs.YtbepoohphmicdaaDoor
open Go.RowKit

/-- slices of bytes as cells. -/
def pcells (L : List Part) : List Value := L.map fun p => Value.slice p.A p.n p.c
theorem pcells_length (L : List Part) : (pcells L).length = L.length := by unfold pcells; simp
theorem pcells_at {L : List Part} {i : Nat} {p : Part} (h : L[i]? = some p) : (pcells L)[i]? = some (.slice p.A p.n p.c) := by unfold pcells; rw [List.getElem?_map, h]; rfl
theorem info_sl : (Tryd.prog.info? 25).map (fun i => (i.zero, i.size, i.bytes)) = some (some (.slice none 0 0), 1, 24) := by kernel_rfl
/-- append of one slice of bytes to a row of the call's own, as a step of the walk. -/
theorem step_append_slice {ops : Array Oper} {rest : List Oper} {o : Oper} {a : Act} {Q : Exit → Act → World → Prop} (hgd : o.guard = none) (s x : Operand)
    (ho : o.op = .call { callee := .builtin .append, args := #[s, x], argTypes := #[22, 22] })
    {w : World} {B : Nat} {v : Value} {i : Nat} {xs : List Value} (hs : a.eval s = v) (hown : w.ownsRow B 25 1 v i xs) (A : Option Addr) (n c : Nat) (hx : a.eval x = .slice (some ⟨w.heap.size, 0, none⟩) 1 1) (hB : B ≤ w.heap.size) (hi : i ≤ 4194304)
    (h : ∀ v' w', Hid (w'.ownsRow B 25 1 v' (i + 1) (xs ++ [.slice A n c])) → Hid (w.grownBy w' v.ownBlock) → Below B w w' → wpList Tryd.prog ops Q rest (a.put o.dst v') w') :
    wpList Tryd.prog ops Q (o :: rest) a (w.alloc (.cells #[.slice A n c] 25)) := by
  obtain ⟨i0, hi0, hz0, hs0, hb0⟩ := info_parts info_sl
  have hl := lies_new w 25 [.slice A n c]
  refine wpList_append_own _ hgd s x 22 ho B 25 i0 (.slice none 0 0) 1 24 Tryd.underlying22 hi0 hz0 hs0 hb0 rfl (by decide) v i xs hs (hown.alloc _) ⟨w.heap.size, 0, none⟩ 1 1 [.slice A n c] hx rfl (fun j u hj => by
      cases j with
      | zero => simp at hj; subst hj; exact hl.cell 0
      | succ j => simp at hj) (fun u hu => by simp at hu; subst hu; rfl) (by unfold maxLen; omega) (by omega) (by rw [size_alloc]; omega) (fun v' w' h2 h3 _ => ?_)
  have hb := ((Below.refl _ _).alloc hB (.cells #[.slice A n c] 25)).grown h3 (by rw [size_alloc]; omega) (fun k hk => (hown.lt k hk).1)
  refine h v' w' h2 (Lib.hid ⟨h3.os.trans rfl, h3.tape.trans rfl, h3.output.trans rfl, Nat.le_trans (by rw [size_alloc]; omega) h3.size, fun k hk hne => ?_⟩) hb
  rw [h3.block k (by rw [size_alloc]; omega) hne]
  exact Below.heap_alloc w _ k hk

/-- a part of a block of bytes of the call's own. -/
def OwnPart (w : World) (B : Nat) (p : Part) : Prop :=
  (p.A = none ∧ p.n = 0 ∧ p.c = 0) ∨ ∃ (g : Nat) (cur : Array Value), p.A = some ⟨g, 0, none⟩ ∧ B ≤ g ∧ w.heap[g]? = some (.cells cur 5 (0, 0)) ∧ p.n ≤ p.c ∧ p.c ≤ maxLen ∧ ∀ k, k < p.n → cur[k]? = some (.int .u8 ((p.V k : Nat) : Int)) ∧ p.V k < 256
theorem OwnPart.below {w w' : World} {B : Nat} {p : Part} (h : OwnPart w B p) (hb : Below w.heap.size w w') : OwnPart w' B p := by
  rcases h with h | ⟨g, cur, h1, h2, h3, h4⟩
  · exact .inl h
  · have hg : g < w.heap.size := (Array.getElem?_eq_some_iff.1 h3).1
    exact .inr ⟨g, cur, h1, h2, (hb.block g hg).trans h3, h4⟩
/-- a row of slices has turned: blocks of bytes are as they were. -/
theorem OwnPart.grown {w w' : World} {B B' n : Nat} {v : Value} {cs : List Value} {p : Part} (h : OwnPart w B p) (hv : w.ownsRow B' 25 1 v n cs) (hg : w.grownBy w' v.ownBlock) : OwnPart w' B p := by
  rcases h with h | ⟨g, cur, h1, h2, h3, h4⟩
  · exact .inl h
  · have hlt : g < w.heap.size := (Array.getElem?_eq_some_iff.1 h3).1
    refine .inr ⟨g, cur, h1, h2, (hg.block g hlt ?_).trans h3, h4⟩
    intro e
    rcases hv.2 with ⟨rfl, _⟩ | ⟨g', cap, cur', rfl, _, hg', _⟩
    · cases e
    · have e : some g = some g' := e
      injection e with e
      subst e
      rw [h3] at hg'
      simp at hg'
theorem OwnPart.bys {w : World} {B : Nat} {p : Part} (h : OwnPart w B p) : p.n ≤ p.c ∧ p.c ≤ maxLen ∧ (p.A = none → p.n = 0 ∧ p.c = 0) ∧ Bys w w.heap.size p.A p.n p.V := by
  rcases h with ⟨h1, h2, h3⟩ | ⟨g, cur, h1, h2, h3, h4, h5, h6⟩
  · exact ⟨by omega, by omega, fun _ => ⟨h2, h3⟩, fun k hk => by omega⟩
  · refine ⟨h4, h5, fun e => (by rw [h1] at e; cases e), fun k hk => ?_⟩
    obtain ⟨h7, h8⟩ := h6 k hk
    refine ⟨⟨g, 0, none⟩, h1, (Array.getElem?_eq_some_iff.1 h3).1, ?_, h8⟩
    have e : (⟨g, 0, none⟩ : Addr).add k = ⟨g, k, none⟩ := by unfold Addr.add; split <;> simp_all
    rw [e, cell_of_row w g k cur 5 (0, 0) h3]
    exact h7
theorem OwnPart.lower {w : World} {B B' : Nat} {p : Part} (h : OwnPart w B p) (hB : B' ≤ B) : OwnPart w B' p := by
  rcases h with h | ⟨g, cur, h1, h2, h3⟩
  · exact .inl h
  · exact .inr ⟨g, cur, h1, by omega, h3⟩
theorem pcells_snoc (L : List Part) (p : Part) : pcells (L ++ [p]) = pcells L ++ [.slice p.A p.n p.c] := by unfold pcells; simp
/-- what a row of bytes is, cut behind. -/
theorem own_cut {w : World} {B m n : Nat} {v : Value} {V : Nat → Nat} (h : w.ownsRow B 5 1 v m (ycells V m)) (hn : n ≤ m) (hV : ∀ k, k < m → V k < 256) :
    ∃ (A : Option Addr) (c : Nat), v = .slice A m c ∧ m ≤ c ∧ (A = none → m = 0 ∧ c = 0) ∧ OwnPart w B ⟨A, n, c, V⟩ := by
  have hc := h
  rcases h.2 with ⟨rfl, rfl⟩ | ⟨g, cap, cur, rfl, hb, hg, hcap, rest⟩
  · exact ⟨none, 0, rfl, Nat.le_refl _, fun _ => ⟨rfl, rfl⟩, .inl ⟨rfl, by show n = 0; omega, rfl⟩⟩
  · refine ⟨some ⟨g, 0, none⟩, cap, rfl, hcap, fun e => (by cases e), .inr ⟨g, cur, rfl, hb, hg, by show n ≤ cap; omega, rest.1, fun k hk => ⟨?_, hV k (by have : k < n := hk; omega)⟩⟩⟩
    · have hk : k < n := hk
      have h1 := hc.cells rfl k _ (ycells_at V m k (by omega))
      have e : (⟨g, 0, none⟩ : Addr).add k = ⟨g, k, none⟩ := by unfold Addr.add; split <;> simp_all
      rw [e, cell_of_row w g k cur 5 (0, 0) hg] at h1
      exact h1

/-- a row of slices of the call's own, as sections. -/
theorem row_secs {w : World} {B B' i : Nat} {o : Value} {L : List Part} (h : w.ownsRow B 25 1 o i (pcells L)) (hl : L.length = i) (hp : ∀ (q : Nat) (p : Part), L[q]? = some p → OwnPart w B' p) : ∃ (P : Option Addr) (c : Nat), o = .slice P L.length c ∧ Secs w w.heap.size P L := by
  subst hl
  rcases Joins.ownsRow_forms h with ⟨rfl, h0⟩ | ⟨g, cap, rfl⟩
  · refine ⟨none, 0, by rw [h0], fun j p hj => ?_⟩
    have := (List.getElem?_eq_some_iff.1 hj).1
    omega
  · refine ⟨some ⟨g, 0, none⟩, cap, rfl, fun j p hj => ?_⟩
    obtain ⟨h1, h2, h3, h4⟩ := (hp j p hj).bys
    exact ⟨⟨g, 0, none⟩, rfl, (h.lt g rfl).2, h.cells rfl j _ (pcells_at hj), h1, h2, h3, h4⟩
/-- what the document's Open leaves. -/
def OpenPost (w : World) (N : Nat) (V : Nat → Nat) (e : Ending) (w' : World) : Prop :=
  ∃ v ok, e = .returned (.tuple #[v, .bool ok]) ∧ (ok = false → ¬ ∃ L, IsImage N V L) ∧
    (ok = true → ∃ (P : Option Addr) (c : Nat) (L : List Part), v = .slice P L.length c ∧ L.length ≤ 60 ∧ Secs w' w'.heap.size P L ∧ IsImage N V (secsP L)) ∧ Below w.heap.size w w'
/-- the document's Get, good or not. -/
theorem refGet_form (A : Option Addr) (n c : Nat) (V : Nat → Nat) (w : World) (hA : A = none → n = 0 ∧ c = 0) (hc : n ≤ c) (ho : Bys w w.heap.size A n V) :
    Calls Tryd.prog 35 #[.slice A n c] w fun e w' => ∃ m k v, e = .returned (.tuple #[.int .i64 m, v, .int .i64 k]) ∧ (¬ (n = 264 ∧ Pl.Ends V 260 ∧ numberOf V < 4096) → k ≠ 0) ∧ ((n = 264 ∧ Pl.Ends V 260 ∧ numberOf V < 4096) → m = ((numberOf V : Nat) : Int) ∧ k = 0 ∧ v = .slice A 256 c) ∧ Below w.heap.size w w' := by
  refine (refPageGet_any A n c V w hA hc ho).mono ?_
  rintro e w' ⟨h1, h2, h3, h4, h5, hb⟩
  by_cases a1 : n < 264
  · exact ⟨_, 50, _, h1 a1, fun _ => by decide, fun h => by omega, hb⟩
  · by_cases a2 : 264 < n
    · exact ⟨_, 51, _, h2 a2, fun _ => by decide, fun h => by omega, hb⟩
    · have a3 : n = 264 := by omega
      by_cases a4 : Pl.Ends V 260
      · by_cases a5 : numberOf V < 4096
        · exact ⟨_, 0, _, h5 a3 a4 a5, fun h => absurd ⟨a3, a4, a5⟩ h, fun _ => ⟨rfl, rfl, rfl⟩, hb⟩
        · exact ⟨_, 10, _, h4 a3 a4 (by omega), fun _ => by decide, fun h => absurd h.2.2 a5, hb⟩
      · exact ⟨_, 40, _, h3 a3 a4, fun _ => by decide, fun h => absurd h.2.1 a4, hb⟩
/-- the pages' slices. -/
def pgv (ad : Addr) (c : Nat) (j : Nat) : List Value := (List.range j).map fun p => Value.slice (some (ad.add (264 * p))) 256 (c - 264 * p)
theorem pgv_length (ad : Addr) (c j : Nat) : (pgv ad c j).length = j := by unfold pgv; simp
theorem pgv_at (ad : Addr) (c j p : Nat) (h : p < j) : (pgv ad c j)[p]? = some (.slice (some (ad.add (264 * p))) 256 (c - 264 * p)) := by
  unfold pgv
  rw [List.getElem?_map, List.getElem?_range h]
  rfl
theorem pgv_snoc (ad : Addr) (c j : Nat) : pgv ad c (j + 1) = pgv ad c j ++ [.slice (some (ad.add (264 * j))) 256 (c - 264 * j)] := by
  unfold pgv
  rw [List.range_succ]
  simp

theorem colo_lit : bstr (ofList [99, 111, 108, 111]) 4 = (⟨#[99, 111, 108, 111]⟩ : ByteArray) := by decide +kernel
theorem colo_bytes {V : Nat → Nat} (h : V 0 = 99 ∧ V 1 = 111 ∧ V 2 = 108 ∧ V 3 = 111 ∧ V 5 = 0) : bstr V 4 = (⟨#[99, 111, 108, 111]⟩ : ByteArray) := by
  rw [← colo_lit]
  refine bstr_congr fun k hk => ?_
  have hc : k = 0 ∨ k = 1 ∨ k = 2 ∨ k = 3 := by omega
  rcases hc with rfl | rfl | rfl | rfl
  · exact h.1
  · exact h.2.1
  · exact h.2.2.1
  · exact h.2.2.2.1
theorem colo_back {V : Nat → Nat} (hV : ∀ k, k < 4 → V k < 256) (h : bstr V 4 = (⟨#[99, 111, 108, 111]⟩ : ByteArray)) : V 0 = 99 ∧ V 1 = 111 ∧ V 2 = 108 ∧ V 3 = 111 := by
  rw [← colo_lit] at h
  have e := (bstr_same hV (fun k hk => by
    have hc : k = 0 ∨ k = 1 ∨ k = 2 ∨ k = 3 := by omega
    rcases hc with rfl | rfl | rfl | rfl <;> decide) h).2
  exact ⟨e 0 (by omega), e 1 (by omega), e 2 (by omega), e 3 (by omega)⟩

set_option maxRecDepth 100000 in
set_option maxHeartbeats 6400000 in
theorem refOpen_some (ad : Addr) (n c : Nat) (V : Nat → Nat) (w : World) (hn0 : 0 < n) (hn : n ≤ 1048576) (hc : n ≤ c) (hcm : c ≤ maxLen) (ho : Bys w w.heap.size (some ad) n V) :
    Calls Tryd.prog 21 #[.slice (some ad) n c] w (OpenPost w n V) := by
  have HO := Lib.hid ho
  have HV := Lib.hid (show ∀ k, k < n → V k < 256 from fun k hk => (ho k hk).elim fun _ h => h.2.2.2)
  have hcl : c ≤ 9223372036854775807 := by unfold maxLen at hcm; omega
  clear ho hcm
  go_enter Tryd.func21, Tryd.ntmps21
  go_wp2_with fail
  go_loopw [4, 5] (fun pg v wr => ∃ j m : Nat, v = .int .i64 (m : Int) ∧ m = 264 * j ∧ m ≤ n ∧ Hid (∀ p, p < j → Pl.Ends (fun x => V (264 * p + x)) 260 ∧ numberOf (fun x => V (264 * p + x)) = p ∧ p < 4096) ∧ Hid (wr.ownsRow w.heap.size 25 1 pg j (pgv ad c j)) ∧ Below w.heap.size w wr) (fun _ v _ => n + 264 - (intOf v).toNat)
  case atStart => exact ⟨0, 0, rfl, rfl, Nat.zero_le _, Lib.hid (fun p hp => absurd hp (Nat.not_lt_zero p)), Lib.hid (World.ownsRow_nil w _ _ _), Below.refl _ _⟩
  case round =>
    obtain ⟨j, m, rfl, hm, hmn, hall, hrow, hb⟩ := hrel
    have HM := Lib.hid hm
    have hbs := hb.size
    clear hm
    by_cases hlt : m < n
    · have hmni : (m : Int) < (n : Int) := by omega
      have hne : c ≠ m := by omega
      have hjm : (m : Int) / 264 = (j : Int) := by have := HM.out; omega
      have hjw : IntKind.i64.wrap (j : Int) = (j : Int) := by have := HM.out; exact IntWalk.i64_in _ (by omega)
      obtain ⟨m2, hm2⟩ : ∃ m2, m + 264 = m2 := ⟨_, rfl⟩
      have e1 : IntKind.i64.wrap ((m : Int) + 264) = (m2 : Int) := by rw [IntWalk.i64_in _ (by omega)]; omega
      have HM2 := Lib.hid hm2
      have hmm2 : (m : Int) ≤ (m2 : Int) := by omega
      clear hm2
      have HG := fun (e : Nat) (he1 : m < e) (he2 : e ≤ n) => Lib.hid (refGet_form (some (ad.add m)) (e - m) (c - m) (fun x => V (m + x)) wr (fun h => (by cases h)) (by omega) (Bys.cut_ (((HO.out).below hb).mono_ hbs) (by omega)))
      by_cases hmin : n < m2
      · have d1 : (n : Int) < (m2 : Int) := by omega
        have HG1 := HG n hlt (Nat.le_refl _)
        clear HG
        go_wp2_with fail
        refine HG1.out.mono ?_
        rintro e w5 ⟨a, k, v, rfl, hbad, hgood, hb5⟩
        have hk := hbad (fun h => by have := HM2.out; omega)
        have hB5 := hb.trans (hb5.mono hb.size)
        clear hbad hgood HG1 hb5
        go_wp2_with fail
        go_ret2
        exact ⟨_, false, rfl, fun _ => no_image_short (by have := HM2.out; have := HM.out; omega), fun h => (by cases h), hB5⟩
      · have d1 : ¬ (n : Int) < (m2 : Int) := by omega
        have hm2c : (m2 : Int) ≤ (c : Int) := by omega
        have HG1 := HG m2 (by have := HM2.out; omega) (by omega)
        clear HG
        go_wp2_with fail
        refine HG1.out.mono ?_
        rintro e w5 ⟨a, k, v, rfl, hbad, hgood, hb5⟩
        have hB5 := hb.trans (hb5.mono hb.size)
        have h264 : m2 - m = 264 := by have := HM2.out; omega
        rw [h264] at hbad hgood
        have hjn : j < n / 264 := by have := HM2.out; have := HM.out; omega
        have HU : (fun x => V (m + x)) = fun x => V (264 * j + x) := by rw [HM.out]
        rw [HU] at hbad hgood
        clear HG1 HU
        by_cases hg : 264 = 264 ∧ Pl.Ends (fun x => V (264 * j + x)) 260 ∧ numberOf (fun x => V (264 * j + x)) < 4096
        · obtain ⟨rfl, rfl, rfl⟩ := hgood hg
          obtain ⟨_, hends, hn4⟩ := hg
          have HE := Lib.hid hends
          obtain ⟨N, hN⟩ : ∃ N, numberOf (fun x => V (264 * j + x)) = N := ⟨_, rfl⟩
          have HN := Lib.hid hN
          rw [hN] at hn4 ⊢
          clear hbad hgood hends hN
          by_cases hNj : N = j
          · subst hNj
            have hj4 : N ≤ 4194304 := by omega
            have hrow5 := Lib.hid (ownsRow_keep hrow.out (hb5))
            have hs5 := hB5.size
            clear hb5
            go_wp2_with (at_builtin; refine step_append_slice rfl (.tmp 44) (.tmp 46) rfl rfl hrow5.out _ _ _ rfl hs5 hj4 ?_; intro v6 w6 hown6 hgr6 hb6)
            go_roundw
            case rel =>
              refine ⟨N + 1, m2, rfl, by have := HM2.out; have := HM.out; omega, by omega, Lib.hid (fun p hp => ?_), Lib.hid ?_, hB5.trans hb6⟩
              · by_cases e : p < N
                · exact hall.out p e
                · obtain rfl : p = N := by omega
                  exact ⟨HE.out, HN.out, hn4⟩
              · have h := hown6.out
                rw [pgv_snoc, ← HM.out]
                exact h
            case measure => have := HM2.out; simp [intOf]; omega
          · have hNi : ((N : Int) == (j : Int)) = false := by rw [beq_eq_false_iff_ne]; omega
            have hNi2 : (N : Int) ≠ (j : Int) := by omega
            clear hb5
            go_wp2_with fail
            go_ret2
            exact ⟨_, false, rfl, fun _ => no_image_number hjn (by rw [HN.out]; exact hNj), fun h => (by cases h), hB5⟩
        · have hk := hbad hg
          have HNI := Lib.hid (show ¬ ∃ L, IsImage n V L from fun ⟨L, hL⟩ => by
            have hF := hL.formed
            have hj : j < startU V (V 4) := by have := hF.size; omega
            exact hg ⟨rfl, hF.ends j hj, by rw [hF.number j hj]; have := hF.fits; omega⟩)
          clear hbad hgood hg hb5
          go_wp2_with fail
          go_ret2
          exact ⟨_, false, rfl, fun _ => HNI.out, fun h => (by cases h), hB5⟩
    · obtain ⟨gp, cp, rfl⟩ := Joins.ownsRow_form hrow.out (by have := HM.out; omega)
      obtain rfl : n = m := by omega
      have hj0 : 0 < j := by have := HM.out; omega
      have h256 : 256 ≤ n := by have := HM.out; omega
      have hj4 : j ≤ 4096 := by
        have := (hall.out (j - 1) (by omega)).2.2
        omega
      have hpg := fun p (hp : p < j) => (hrow.out.cellAt p (by omega)).trans (pgv_at ad c j p hp)
      have hp0 := hpg 0 hj0
      rw [Nat.mul_zero, Nat.sub_zero, show ad.add 0 = ad by simp [Addr.add]] at hp0
      have hO := HO.out.below hb
      have hcv := (hO.take_ (m := 4) (by omega)).conv c
      obtain ⟨_, e4, _, q4, v4⟩ := hO 4 (by omega)
      cases e4
      obtain ⟨_, e5, _, q5, v5⟩ := hO 5 (by omega)
      cases e5
      have q4 : wr.cell? ⟨ad.block, ad.off + 4, none⟩ = _ := q4
      have q5 : wr.cell? ⟨ad.block, ad.off + 5, none⟩ = _ := q5
      have hcc : (4 : Int) ≤ (c : Int) := by omega
      have hje : ((j : Int) == 0) = false := by rw [beq_eq_false_iff_ne]; omega
      have hj0i : (0 : Int) < (j : Int) := by omega
      obtain ⟨c4, hc4⟩ : ∃ c4, V 4 = c4 := ⟨_, rfl⟩
      obtain ⟨c5, hc5⟩ : ∃ c5, V 5 = c5 := ⟨_, rfl⟩
      have HC4 := Lib.hid hc4
      have HC5 := Lib.hid hc5
      rw [hc4] at q4 v4
      rw [hc5] at q5 v5
      have HPG := Lib.hid hpg
      clear hpg hO hc4 hc5
      by_cases hco : bstr V 4 = (⟨#[99, 111, 108, 111]⟩ : ByteArray)
      · rw [hco] at hcv
        have HCO := Lib.hid hco
        clear hco
        by_cases h4 : c4 ≤ 60
        · have d4 : decide ((60 : Int) < (c4 : Int)) = false := by simp; omega
          by_cases h5 : c5 = 0
          · have d5 : decide ((0 : Int) < (c5 : Int)) = false := by simp; omega
            rename World => w2
            have HCE := Lib.hid (fun p (hp : p < j) W (hW : Below w2.heap.size w2 W) => (hW.cell (cell_in (HPG.out p hp))).trans (HPG.out p hp))
            have HBY := Lib.hid (fun W (hW : Below w2.heap.size w2 W) => HO.out.below (hb.trans (hW.mono hbs)))
            go_wp2_with fail
            clear hcv q5 hp0 q4 d4 d5
            go_loopw [9, 10, 11] (fun o a v wx => ∃ (i f : Nat) (Lp : List Part), i ≤ c4 ∧ v = .int .i64 (i : Int) ∧ a = .int .i64 (f : Int) ∧ Hid (f = startU V i) ∧ f ≤ j ∧ Hid (wx.ownsRow w2.heap.size 25 1 o i (pcells Lp)) ∧ Hid (Lp.length = i) ∧ Hid (∀ (q : Nat) (p : Part), Lp[q]? = some p → p.n = lenU V q ∧ (∀ k, k < p.n → p.V k = V (place (startU V q) k)) ∧ OwnPart wx w2.heap.size p) ∧ Below w2.heap.size w2 wx) (fun _ _ v _ => c4 - (intOf v).toNat)
            case atStart => exact ⟨0, 1, [], Nat.zero_le _, rfl, rfl, Lib.hid rfl, hj0, Lib.hid (World.ownsRow_nil w2 _ _ _), Lib.hid rfl, Lib.hid (fun q p h => by simp at h), Below.refl _ _⟩
            case round =>
              obtain ⟨i, f, Lp, hi, rfl, rfl, hf, hfj, hrowo, hlen, hparts, hbx⟩ := hrel
              have hcl0 := HCE.out 0 hj0 wr hbx
              rw [Nat.mul_zero, Nat.sub_zero, show ad.add 0 = ad by simp [Addr.add]] at hcl0
              have hO := HBY.out wr hbx
              obtain ⟨_, e4, _, q4, _⟩ := hO 4 (by omega)
              cases e4
              have q4 : wr.cell? ⟨ad.block, ad.off + 4, none⟩ = _ := q4
              rw [HC4.out] at q4
              clear hO
              by_cases hic : i < c4
              · have hici : (i : Int) < (c4 : Int) := by omega
                obtain ⟨a6, ha6⟩ : ∃ a6, 6 + 4 * i = a6 := ⟨_, rfl⟩
                obtain ⟨a10, ha10⟩ : ∃ a10, 10 + 4 * i = a10 := ⟨_, rfl⟩
                obtain ⟨i4, hi4⟩ : ∃ i4, 4 * i = i4 := ⟨_, rfl⟩
                have w1 : IntKind.i64.wrap (4 * (i : Int)) = (i4 : Int) := by rw [IntWalk.i64_in _ (by omega)]; omega
                have w2 : IntKind.i64.wrap (6 + (i4 : Int)) = (a6 : Int) := by rw [IntWalk.i64_in _ (by omega)]; omega
                have w3 : IntKind.i64.wrap (10 + (i4 : Int)) = (a10 : Int) := by rw [IntWalk.i64_in _ (by omega)]; omega
                have w4 : (a6 : Int) ≤ (a10 : Int) := by omega
                have w5 : (a10 : Int) ≤ (c : Int) := by omega
                have w6 : a10 - a6 = 4 := by omega
                have w7 : c ≠ a6 := by omega
                have HA6 := Lib.hid ha6
                have hby := fun q => HBY.out (wr.drewN q) (below_drewN' hbx q)
                have hk : ∀ x, x < 4 → ∀ q, (wr.drewN q).cell? ((ad.add a6).add x) = some (.int .u8 ((V (6 + 4 * i + x) : Nat) : Int)) := fun x hx q => by
                  obtain ⟨_, e, _, h, _⟩ := hby q (6 + 4 * i + x) (by omega)
                  cases e
                  rw [Addr.add_add, ← ha6]
                  exact h
                have k0 : ∀ q, (wr.drewN q).cell? (ad.add a6) = some (.int .u8 ((V (6 + 4 * i) : Nat) : Int)) := fun q => by
                  have h := hk 0 (by omega) q
                  rw [show (ad.add a6).add 0 = ad.add a6 by simp [Addr.add]] at h
                  exact h
                have k1 : ∀ q, (wr.drewN q).cell? ⟨(ad.add a6).block, (ad.add a6).off + 1, none⟩ = some (.int .u8 ((V (6 + 4 * i + 1) : Nat) : Int)) := hk 1 (by omega)
                have k2 : ∀ q, (wr.drewN q).cell? ⟨(ad.add a6).block, (ad.add a6).off + 2, none⟩ = some (.int .u8 ((V (6 + 4 * i + 2) : Nat) : Int)) := hk 2 (by omega)
                have k3 : ∀ q, (wr.drewN q).cell? ⟨(ad.add a6).block, (ad.add a6).off + 3, none⟩ = some (.int .u8 ((V (6 + 4 * i + 3) : Nat) : Int)) := hk 3 (by omega)
                have hl : lenU V i = V (6 + 4 * i) + 256 * V (6 + 4 * i + 1) + 65536 * V (6 + 4 * i + 2) + 16777216 * V (6 + 4 * i + 3) := rfl
                have b0 := HV.out (6 + 4 * i) (by omega)
                have b1 := HV.out (6 + 4 * i + 1) (by omega)
                have b2 := HV.out (6 + 4 * i + 2) (by omega)
                have b3 := HV.out (6 + 4 * i + 3) (by omega)
                generalize V (6 + 4 * i) = y0 at k0 hl b0
                generalize V (6 + 4 * i + 1) = y1 at k1 hl b1
                generalize V (6 + 4 * i + 2) = y2 at k2 hl b2
                generalize V (6 + 4 * i + 3) = y3 at k3 hl b3
                obtain ⟨z1, hz1⟩ : ∃ z1, 256 * y3 = z1 := ⟨_, rfl⟩
                obtain ⟨z2, hz2⟩ : ∃ z2, y2 + z1 = z2 := ⟨_, rfl⟩
                obtain ⟨z3, hz3⟩ : ∃ z3, 256 * z2 = z3 := ⟨_, rfl⟩
                obtain ⟨z4, hz4⟩ : ∃ z4, y1 + z3 = z4 := ⟨_, rfl⟩
                obtain ⟨z5, hz5⟩ : ∃ z5, 256 * z4 = z5 := ⟨_, rfl⟩
                obtain ⟨sz, hsz⟩ : ∃ sz, y0 + z5 = sz := ⟨_, rfl⟩
                have x1 : IntKind.i64.wrap (256 * (y3 : Int)) = (z1 : Int) := by rw [IntWalk.i64_in _ (by omega)]; omega
                have x2 : IntKind.i64.wrap ((y2 : Int) + (z1 : Int)) = (z2 : Int) := by rw [IntWalk.i64_in _ (by omega)]; omega
                have x3 : IntKind.i64.wrap (256 * (z2 : Int)) = (z3 : Int) := by rw [IntWalk.i64_in _ (by omega)]; omega
                have x4 : IntKind.i64.wrap ((y1 : Int) + (z3 : Int)) = (z4 : Int) := by rw [IntWalk.i64_in _ (by omega)]; omega
                have x5 : IntKind.i64.wrap (256 * (z4 : Int)) = (z5 : Int) := by rw [IntWalk.i64_in _ (by omega)]; omega
                have x6 : IntKind.i64.wrap ((y0 : Int) + (z5 : Int)) = (sz : Int) := by rw [IntWalk.i64_in _ (by omega)]; omega
                have HSZ := Lib.hid (show sz = lenU V i by omega)
                have hszb : sz < 4294967296 := by omega
                clear hk hby hl hz1 hz2 hz3 hz4 hz5 hsz ha6 ha10 hi4
                go_wp2_with fail
                go_quiet (fail)
                clear k0 k1 k2 k3 x1 x2 x3 x4 x5 x6 w1 w2 w3 w4 w5 w6 w7 b0 b1 b2 b3
                have hbd := below_drewN' hbx nq
                have hro := Lib.hid (show (wr.drewN nq).ownsRow w2.heap.size 25 1 _ i (pcells Lp) from hrowo.out)
                have hpa := Lib.hid (show ∀ (q : Nat) (p : Part), Lp[q]? = some p → p.n = lenU V q ∧ (∀ k, k < p.n → p.V k = V (place (startU V q) k)) ∧ OwnPart (wr.drewN nq) w2.heap.size p from hparts.out)
                clear hrowo hparts hbx hcl0 q4
                generalize wr.drewN nq = wy at hbd hro hpa ⊢
                go_wp2_with fail
                have hsect := Lib.hid (show ∀ q, f + q < j → (256 : Nat) * q + 256 ≤ 256 * (q + 1) ∧ ycells (fun k => V (place f k)) (256 * q) ++ ycells (fun k => V (264 * (f + q) + k)) 256 = ycells (fun k => V (place f k)) (256 * q + 256) from fun q hq => ⟨by omega, by
                  rw [ycells_both]
                  refine ycells_congr fun k hk => ?_
                  unfold both
                  split
                  · rfl
                  · have e : place f k = 264 * (f + q) + (k - 256 * q) := by unfold place; omega
                    rw [e]⟩)
                have hplt : ∀ q k, f + q ≤ j → k < 256 * q → V (place f k) < 256 := fun q k hq hk => HV.out _ (by have := place_lt (f := f) hk; have := HM.out; omega)
                have HPL := Lib.hid hplt
                clear hplt
                go_loopw [10, 14] (fun a sv wq => ∃ q g : Nat, a = .int .i64 (g : Int) ∧ g = f + q ∧ g ≤ j ∧ q ≤ pgs sz ∧ Hid (wq.ownsRow wy.heap.size 5 1 sv (256 * q) (ycells (fun k => V (place f k)) (256 * q))) ∧ Below wy.heap.size wy wq) (fun a _ _ => j - (intOf a).toNat)
                case atStart => exact ⟨0, f, rfl, rfl, hfj, Nat.zero_le _, Lib.hid (World.ownsRow_nil wy _ _ _), Below.refl _ _⟩
                case round =>
                  obtain ⟨q, g, rfl, hg, hgj, hq, hrs, hbq⟩ := hrel
                  have HGq := Lib.hid hg
                  have hbq2 := hbd.trans (hbq.mono hbd.size)
                  have hcut := fun n2 (hn2 : n2 ≤ 256 * q) => own_cut hrs.out hn2 (fun k hk => HPL.out q k (by omega) hk)
                  by_cases hsl : 256 * q < sz
                  · obtain ⟨Z, cz, rfl, hZc, hZA, _⟩ := hcut 0 (Nat.zero_le _)
                    have hZc2 := hZc
                    have hsli : 256 * (q : Int) < (sz : Int) := by omega
                    by_cases hgl : j ≤ g
                    · have hgli : decide ((j : Int) ≤ (g : Int)) = true := by simp; omega
                      have HNI := Lib.hid (show ¬ ∃ L, IsImage n V L from fun ⟨L, hL⟩ => by
                        have hF := hL.formed
                        have h1 := startU_mono V i (V 4) (by rw [HC4.out]; exact hic)
                        have h2 := hF.size
                        have h3 := HM.out
                        have h4 := hf.out
                        have h5 : q < pgs (lenU V i) := by rw [← HSZ.out]; unfold pgs; omega
                        omega)
                      clear hcut hg
                      go_wp2_with fail
                      go_ret2
                      exact ⟨_, false, rfl, fun _ => HNI.out, fun h => (by cases h), hb.trans (hbq2.mono hbs)⟩
                    · have hgli : decide ((j : Int) ≤ (g : Int)) = false := by simp; omega
                      have hgji : (g : Int) < (j : Int) := by omega
                      have hpc := HCE.out g (by omega) wr hbq2
                      have hBg := Bys.cut_ (m := 264 * g) (e := 256) (HBY.out wr hbq2) (by have := HM.out; omega)
                      have HBg := Lib.hid hBg
                      have HSe := Lib.hid (hsect.out q (by omega)).2
                      have hsq := hbq.size
                      have hqb : 256 * q + 256 ≤ 4194304 := by omega
                      have hq1 : q + 1 ≤ pgs sz := by unfold pgs; omega
                      clear hcut hg hBg
                      go_wp2_with (at_builtin; refine step_append_bytes rfl (.tmp 125) (.tmp 129) rfl rfl hrs.out rfl (fun h => (by cases h)) HBg.out hsq hqb ?_; intro v6 w6 hown6 hb6)
                      go_roundw
                      case rel =>
                        refine ⟨q + 1, g + 1, by go_num, by have := HGq.out; omega, by omega, hq1, Lib.hid ?_, hbq.trans hb6⟩
                        have h := hown6.out
                        rw [HGq.out, HSe.out] at h
                        exact h
                      case measure => simp [intOf]; omega
                  · have hqe : q = pgs sz := by
                      unfold pgs at hq ⊢
                      omega
                    have hsli : ¬ 256 * (q : Int) < (sz : Int) := by omega
                    obtain ⟨Z, cz, rfl, hZc, hZA, hpart⟩ := hcut sz (by omega)
                    have hszc : (sz : Int) ≤ (cz : Int) := by omega
                    clear hcut
                    have hroq := Lib.hid (ownsRow_keep hro.out hbq)
                    have hsq2 := hbq2.size
                    have hi4 : i ≤ 4194304 := by omega
                    have HPt := Lib.hid (hpart.lower hbd.size)
                    have HF := Lib.hid (show g = startU V (i + 1) by
                      show g = startU V i + pgs (lenU V i)
                      rw [← HSZ.out, ← hqe, ← hf.out]
                      exact hg)
                    clear hpart hg hqe
                    go_wp2_with (at_builtin; refine step_append_slice rfl (.tmp 133) (.tmp 137) rfl rfl hroq.out Z sz cz rfl hsq2 hi4 ?_; intro v6 w6 hown6 hgr6 hb6)
                    go_roundw
                    case rel =>
                      refine ⟨i + 1, g, Lp ++ [⟨Z, sz, cz, fun k => V (place f k)⟩], by omega, by go_num, rfl, HF, hgj, Lib.hid ?_, Lib.hid (by rw [List.length_append, hlen.out]; rfl), Lib.hid (fun x p hx => ?_), hbq2.trans hb6⟩
                      · rw [pcells_snoc]
                        exact hown6.out
                      · by_cases e : x < i
                        · rw [List.getElem?_append_left (by rw [hlen.out]; exact e)] at hx
                          obtain ⟨p1, p2, p3⟩ := hpa.out x p hx
                          exact ⟨p1, p2, (p3.below hbq).grown hroq.out hgr6.out⟩
                        · have hxl := (List.getElem?_eq_some_iff.1 hx).1
                          rw [List.length_append, hlen.out] at hxl
                          obtain rfl : x = i := by
                            have : ([⟨Z, sz, cz, fun k => V (place f k)⟩] : List Part).length = 1 := rfl
                            omega
                          rw [List.getElem?_append_right (by rw [hlen.out]; exact Nat.le_refl _), hlen.out, Nat.sub_self] at hx
                          cases hx
                          exact ⟨HSZ.out, fun k _ => by rw [hf.out], HPt.out.grown hroq.out hgr6.out⟩
                    case measure => simp [intOf]; omega
              · obtain rfl : c4 = i := by omega
                obtain ⟨PP, cc, rfl, hsecs⟩ := row_secs hrowo.out hlen.out (fun q p h => (hparts.out q p h).2.2)
                have hBr := hb.trans (hbx.mono hbs)
                have HLb := Lib.hid (refBuild_any PP cc Lp wr hsecs)
                have HSE := Lib.hid hsecs
                have hsame : SameS (secsP Lp) (secsU V) := ⟨by rw [secsP_length, secsU_length, HC4.out]; exact hlen.out, fun q x y h1 h2 => by
                  have hq := (List.getElem?_eq_some_iff.1 h1).1
                  rw [secsP_length, hlen.out] at hq
                  obtain ⟨p, hp⟩ : ∃ p, Lp[q]? = some p := ⟨_, List.getElem?_eq_getElem (by rw [hlen.out]; exact hq)⟩
                  rw [secsP_at hp] at h1
                  rw [secsU_at V q (by rw [HC4.out]; exact hq)] at h2
                  cases h1
                  cases h2
                  obtain ⟨p1, p2, _⟩ := hparts.out q p hp
                  exact ⟨p1, p2⟩⟩
                have hall2 : allPages (secsP Lp) = f := by rw [hsame.all, secsU_all, HC4.out, ← hf.out]
                have hl60 : Lp.length ≤ 60 := by rw [hlen.out]; exact h4
                have hfits : Fits (secsP Lp) := ⟨by rw [secsP_length]; exact hl60, by rw [hall2]; omega, hsecs.bytes⟩
                have HFit := Lib.hid hfits
                have HSm := Lib.hid hsame
                have HAl := Lib.hid hall2
                have hcv := (HBY.out wr hbx).conv c
                clear hsecs hsame hall2 hfits hparts hrowo
                go_wp2_with fail
                clear hcl0 q4
                refine HLb.out.mono ?_
                rintro e w5 ⟨_, _, h3, hb5⟩
                obtain ⟨x, rfl, hx⟩ := h3 hl60 HFit.out.pages
                rw [HAl.out] at hx
                have hcx := row_conv hx (fun k _ => HFit.out.byte k)
                have hcb := ((HBY.out wr hbx).below (hb5.mono hBr.size)).conv c
                have hB5 := hBr.trans (hb5.mono hBr.size)
                have HSE5 := Lib.hid ((HSE.out.below hb5).mono_ hb5.size)
                clear hx h3 hcv HLb HSE
                by_cases hs : bstr (imageOf (secsP Lp)) (264 * f) = bstr V n
                · have hst := str_same hs
                  have HIs := Lib.hid (show IsImage n V (secsP Lp) from by
                    obtain ⟨e1, e2⟩ := bstr_same (fun k _ => HFit.out.byte k) HV.out hs
                    exact ⟨HFit.out, by rw [HAl.out]; exact e1.symm, fun k hk => (e2 k (by omega)).symm⟩)
                  clear hs
                  go_wp2_with fail
                  go_ret2
                  exact ⟨_, true, rfl, fun h => (by cases h), fun _ => ⟨PP, cc, Lp, rfl, hl60, HSE5.out, HIs.out⟩, hB5⟩
                · have hst := str_unlike hs
                  have HNI := Lib.hid (show ¬ ∃ L, IsImage n V L from fun ⟨L, hL⟩ => hs (by
                    have hI := hL.formed.image HV.out
                    have e1 : 264 * f = n := by rw [← HAl.out, HSm.out.all]; exact hI.2.1.symm
                    rw [e1]
                    exact bstr_congr fun k hk => by rw [hI.2.2 k hk, HSm.out.image]))
                  clear hs
                  go_wp2_with fail
                  go_ret2
                  exact ⟨_, false, rfl, fun _ => HNI.out, fun h => (by cases h), hB5⟩
          · have d5 : decide ((0 : Int) < (c5 : Int)) = true := by simp; omega
            go_wp2_with fail
            go_ret2
            exact ⟨_, false, rfl, fun _ ⟨L, hL⟩ => h5 (by rw [← HC5.out]; exact hL.formed.colo.2.2.2.2), fun h => (by cases h), hb⟩
        · have d4 : decide ((60 : Int) < (c4 : Int)) = true := by simp; omega
          go_wp2_with fail
          go_ret2
          exact ⟨_, false, rfl, fun _ ⟨L, hL⟩ => h4 (by rw [← HC4.out]; exact hL.formed.few), fun h => (by cases h), hb⟩
      · have hun : ¬ (bstr V 4).toList = [99, 111, 108, 111] := fun h => hco (ByteArray.ext (Array.toList_inj.1 (by rw [← ByteArray.toList_eq]; exact h)))
        have HCO := Lib.hid hco
        clear hco
        go_wp2_with fail
        go_ret2
        exact ⟨_, false, rfl, fun _ ⟨L, hL⟩ => HCO.out (colo_bytes hL.formed.colo), fun h => (by cases h), hb⟩

set_option maxRecDepth 100000 in
theorem refOpen_any (A : Option Addr) (n c : Nat) (V : Nat → Nat) (w : World) (hn : n ≤ 1048576) (hA : A = none → n = 0 ∧ c = 0) (hc : n ≤ c) (hcm : c ≤ maxLen) (ho : Bys w w.heap.size A n V) :
    Calls Tryd.prog 21 #[.slice A n c] w (OpenPost w n V) := by
  by_cases h0 : n = 0
  · have hd : decide ((0 : Int) < (n : Int)) = false := by simp; omega
    have hlt : ¬ (0 : Int) < (n : Int) := by omega
    have HN := Lib.hid h0
    clear h0 ho hA
    go_enter Tryd.func21, Tryd.ntmps21
    go_wp2_with fail
    go_loop [4, 5] (fun pg v => pg = .slice none 0 0 ∧ v = .int .i64 0) (fun _ _ => 0)
    case atStart => exact ⟨rfl, rfl⟩
    case round =>
      obtain ⟨rfl, rfl⟩ := hrel
      go_wp2_with fail
      go_ret2
      exact ⟨_, false, rfl, fun _ => no_image_short (.inr HN.out), fun h => (by cases h), Below.refl _ _⟩
  · rcases A with _ | ad
    · exact absurd (hA rfl).1 h0
    · exact refOpen_some ad n c V w (by omega) hn hc hcm ho
end Go.Proofs.YtbepoohphmicdaaDoor
