/- The developers' package text: a collection as it lies; its functions but New and Doc. -/
import Derived.Test.YtpdleigcdmgfmaaTxtI
import Derived.Test.YtpdleigcdmgfmaaTxtParts
import Derived.Test.YtpdleigcdmgfmaaRange
import Derived.Test.YtpdleigcdmgfmaaIntPut
import Derived.Deep.QuietTactic
import Derived.BigQuiet
namespace Go.Proofs.Ytpdleigcdmgfmaa
open Go.RowKit

/-- where the documents begin, as ints. -/
def offI (S : List Sec) (i : Nat) : Int := ((offT S i : Nat) : Int)
/-- a collection as it lies: its struct in block g, its documents, where they begin in block y. -/
structure Txt (B : Nat) (w : World) (g : Nat) (X : Option Addr) (cx y cy : Nat) (T : List Part) (S : List Sec) : Prop where
  head : Lies w g 47 [.slice X S.length cx, .slice (some ⟨y, 0, none⟩) (S.length + 1) cy]
  lo : B ≤ g
  docs : w.ownsRow B 44 1 (.slice X S.length cx) S.length (pcells T)
  same : docsP T = S
  parts : ∀ (q : Nat) (p : Part), T[q]? = some p → OwnPart w B p
  starts : w.ownsRow B 3 1 (.slice (some ⟨y, 0, none⟩) (S.length + 1) cy) (S.length + 1) (icells (offI S) (S.length + 1))
  right : RightT S
  small : ∀ x ∈ S, ∀ k, k < x.n → x.V k < 256

theorem owns_on {w w' : World} {B n : Nat} {t : TypeId} {v : Value} {cs : List Value} (h : w.ownsRow B t 1 v n cs) (hb : ∀ k, B ≤ k → k < w.heap.size → w'.heap[k]? = w.heap[k]?) : w'.ownsRow B t 1 v n cs := by
  refine ⟨h.1, ?_⟩
  rcases h.2 with h0 | ⟨g, cap, cur, e, h1, h2, h3⟩
  · exact .inl h0
  · exact .inr ⟨g, cap, cur, e, h1, (hb g h1 (Array.getElem?_eq_some_iff.1 h2).1).trans h2, h3⟩
theorem OwnPart.on {w w' : World} {B : Nat} {p : Part} (h : OwnPart w B p) (hb : ∀ k, B ≤ k → k < w.heap.size → w'.heap[k]? = w.heap[k]?) : OwnPart w' B p := by
  rcases h with h | ⟨g, cur, h1, h2, h3, h4⟩
  · exact .inl h
  · exact .inr ⟨g, cur, h1, h2, (hb g h2 (Array.getElem?_eq_some_iff.1 h3).1).trans h3, h4⟩

theorem tquiet {w : World} {f : FuncId} {args : Array Value} {m : Nat} {v : Value} (h : Calls Try.prog f args (w.drewN m) fun e w' => e = .returned v ∧ w.drewN m = w') :
    Calls Try.prog f args (w.drewN m) fun e w'' => e = .returned v ∧ ∃ j, w'' = w.drewN j := h.mono fun _ _ hh => ⟨hh.1, m, hh.2.symm⟩
section
variable {B : Nat} {w w' : World} {g : Nat} {X : Option Addr} {cx y cy : Nat} {T : List Part} {S : List Sec}
theorem Txt.keep_ (h : Txt B w g X cx y cy T S) (hb : ∀ k, B ≤ k → k < w.heap.size → w'.heap[k]? = w.heap[k]?) : Txt B w' g X cx y cy T S :=
  ⟨h.head.same (hb g h.lo h.head.lt), h.lo, owns_on h.docs hb, h.same, fun q p hq => (h.parts q p hq).on hb, owns_on h.starts hb, h.right, h.small⟩
theorem Txt.keep (h : Txt B w g X cx y cy T S) (hb : Below w.heap.size w w') : Txt B w' g X cx y cy T S := h.keep_ fun k _ hk => hb.block k hk
theorem Txt.len_ (h : Txt B w g X cx y cy T S) : T.length = S.length := by rw [← h.same, docsP_length]
theorem Txt.c0 (h : Txt B w g X cx y cy T S) : w.cell? ⟨g, 0, none⟩ = some (.slice X S.length cx) := h.head.cell 0
theorem Txt.c1 (h : Txt B w g X cx y cy T S) : w.cell? ⟨g, 1, none⟩ = some (.slice (some ⟨y, 0, none⟩) (S.length + 1) cy) := h.head.cell 1
theorem Txt.start (h : Txt B w g X cx y cy T S) {d : Nat} (hd : d ≤ S.length) : w.cell? ⟨y, d, none⟩ = some (.int .i64 ((offT S d : Nat) : Int)) := by
  rw [h.starts.cellAt d (by omega)]
  exact icells_at (offI S) (S.length + 1) d (by omega)
theorem Txt.off_le (h : Txt B w g X cx y cy T S) {d : Nat} (hd : d ≤ S.length) : offT S d ≤ 65792 := by
  have h1 := offT_mono hd (Nat.le_refl _)
  have h2 : offT S S.length = bytesT S + S.length := lenT_is S
  have h3 := h.right.1
  have h4 := h.right.2
  omega
theorem Txt.doc (h : Txt B w g X cx y cy T S) {d : Nat} (hd : d < S.length) : ∃ (gx : Nat) (p : Part), X = some ⟨gx, 0, none⟩ ∧ T[d]? = some p ∧ S[d]? = some p.sec ∧ w.cell? ⟨gx, d, none⟩ = some (.slice p.A p.n p.c) ∧ OwnPart w B p := by
  obtain ⟨p, hp⟩ : ∃ p, T[d]? = some p := ⟨_, List.getElem?_eq_getElem (by rw [h.len_]; exact hd)⟩
  have hS : S[d]? = some p.sec := by rw [← h.same]; exact docsP_at hp
  rcases h.docs.2 with ⟨_, h0⟩ | ⟨gx, cap, cur, e, _⟩
  · omega
  · cases e
    refine ⟨gx, p, rfl, hp, hS, ?_, h.parts d p hp⟩
    have hc := h.docs.cells rfl d _ (pcells_at hp)
    rwa [Addr.add_mid, Nat.zero_add] at hc

set_option maxRecDepth 100000 in
theorem tdocs_any (h : Txt B w g X cx y cy T S) : Calls Try.prog 29 #[.pointer (some ⟨g, 0, none⟩)] w fun e w' => e = .returned (.int .i64 ((S.length : Nat) : Int)) ∧ w = w' := by
  have h0 := h.c0
  obtain ⟨k, hk⟩ : ∃ k, S.length = k := ⟨_, rfl⟩
  rw [hk] at h0 ⊢
  clear h hk
  go_enter Try.func29, Try.ntmps29
  go_wp2_with fail
  go_ret
  exact ⟨rfl, rfl⟩
theorem tdocs_nil (w : World) : Calls Try.prog 29 #[.pointer none] w fun e w' => e = .returned (.int .i64 0) ∧ w = w' := by
  go_enter Try.func29, Try.ntmps29
  go_wp2_with fail
  go_ret
  exact ⟨rfl, rfl⟩

set_option maxRecDepth 100000 in
set_option maxHeartbeats 800000 in
theorem tlen_any (h : Txt B w g X cx y cy T S) : Calls Try.prog 24 #[.pointer (some ⟨g, 0, none⟩)] w fun e w' => e = .returned (.int .i64 ((lenT S : Nat) : Int)) ∧ ∃ q, w' = w.drewN q := by
  have HD0 := Lib.hid (tdocs_any h)
  have HD : ∀ q, Hid (Calls Try.prog 29 #[.pointer (some ⟨g, 0, none⟩)] (w.drewN q) fun e w' => e = .returned (.int .i64 ((S.length : Nat) : Int)) ∧ w.drewN q = w') := fun q => Lib.hid (tdocs_any (h.keep (below_drewN' (Below.refl _ _) q)))
  have h1 : ∀ q, (w.drewN q).cell? ⟨g, 1, none⟩ = some (.slice (some ⟨y, 0, none⟩) (S.length + 1) cy) := fun q => (h.keep (below_drewN' (Below.refl _ _) q)).c1
  have h2 : ∀ q, (w.drewN q).cell? ⟨y, S.length, none⟩ = some (.int .i64 ((lenT S : Nat) : Int)) := fun q => (h.keep (below_drewN' (Below.refl _ _) q)).start (Nat.le_refl _)
  have hr := h.right.1
  have hcy := owns_room h.starts
  have h0 : S.length = 0 → lenT S = 0 := fun e => by
    unfold lenT
    rw [e]
    rfl
  obtain ⟨k, hk⟩ : ∃ k, S.length = k := ⟨_, rfl⟩
  obtain ⟨N, hN⟩ : ∃ N, lenT S = N := ⟨_, rfl⟩
  rw [hk, hN] at h2 h0
  rw [hk] at h1 hr HD HD0 hcy
  rw [hN]
  have hcm : cy ≤ 9223372036854775807 := by have := hcy.2; unfold maxLen at this; omega
  have hcl := hcy.1
  clear h hk hN hcy
  by_cases hz : k = 0
  · obtain rfl := h0 hz
    subst hz
    go_enter Try.func24, Try.ntmps24
    go_wp2_with (go_at_call 29; refine HD0.out.mono ?_; rintro e w' ⟨rfl, rfl⟩)
    go_ret
    exact ⟨rfl, 0, rfl⟩
  · have hz0 : ((k : Int) == 0) = false := by rw [beq_eq_false_iff_ne]; omega
    go_enter Try.func24, Try.ntmps24
    go_wp2_with (go_at_call 29; refine HD0.out.mono ?_; rintro e w' ⟨rfl, rfl⟩)
    go_quiet ((go_at_call 29; with_reducible exact tquiet (HD _).out))
    go_wp2_with fail
    go_ret
    exact ⟨rfl, _, rfl⟩
theorem tlen_nil (w : World) : Calls Try.prog 24 #[.pointer none] w fun e w' => e = .returned (.int .i64 0) ∧ w = w' := by
  go_enter Try.func24, Try.ntmps24
  go_wp2_with (go_at_call 29; refine (tdocs_nil _).mono ?_; rintro e w' ⟨rfl, rfl⟩)
  go_ret
  exact ⟨rfl, rfl⟩

set_option maxRecDepth 100000 in
/-- bytes.Clone of nothing. -/
theorem clone_none (w : World) : Calls Try.prog 22 #[.slice none 0 0] w fun e w' => e = .returned (.slice none 0 0) ∧ w = w' := by
  have hnil := fun W => Lib.run_eql_slice_nil (P := Try.prog) W 44 5 none 0 0 0 0 Try.underlying44
  go_enter Try.func22, Try.ntmps22
  go_wp2_with fail
  go_ret
  exact ⟨rfl, rfl⟩
/-- bytes.Clone, of any bytes. -/
theorem tclone_any (p : Part) (w : World) (hn : p.n ≤ 1048576) (hA : p.A = none → p.n = 0 ∧ p.c = 0) (ho : Bys w w.heap.size p.A p.n p.V) :
    Calls Try.prog 22 #[.slice p.A p.n p.c] w fun e w' => ∃ q : Part, e = .returned (.slice q.A q.n q.c) ∧ q.sec = p.sec ∧ w'.ownsRow w.heap.size 5 1 (.slice q.A q.n q.c) q.n (ycells q.V q.n) ∧ OwnPart w' w.heap.size q ∧ Below w.heap.size w w' := by
  obtain ⟨A, n, c, V⟩ := p
  rcases A with _ | ad
  · obtain ⟨h1, h2⟩ := hA rfl
    have h1 : n = 0 := h1
    have h2 : c = 0 := h2
    subst h1 h2
    refine (clone_none w).mono ?_
    rintro e w' ⟨rfl, rfl⟩
    exact ⟨⟨none, 0, 0, V⟩, rfl, rfl, World.ownsRow_nil _ _ _ _, .inl ⟨rfl, rfl, rfl⟩, Below.refl _ _⟩
  · refine (clone_any ad n c V w hn ho).mono ?_
    rintro e w' ⟨v, rfl, hv, hb⟩
    obtain ⟨A', c', rfl, _, _, h⟩ := own_cut hv (Nat.le_refl _) (fun k hk => (ho k hk).elim fun _ h => h.2.2.2)
    exact ⟨⟨A', n, c', V⟩, rfl, rfl, hv, h, hb⟩

end
end Go.Proofs.Ytpdleigcdmgfmaa
