/- For every input colophonlaw01.PackLast returns true, and its arguments read as they read. No condition. -/
import Derived.Test.YtlpoingajmogkaaFirst
import Derived.Test.YtlpoingajmogkaaLaw
import Derived.Deep.DeepCutAuto
import Derived.Deep.CutBlock
import Derived.Deep.QuietTactic
import Derived.BigQuiet
namespace Go.Proofs.Ytlpoingajmogkaa.packLast
open Go.ChangeShapes Go.WideShapes Go.ChangeAt Go.RowKit

theorem place_num (a : Int) : ∃ j : Nat, wrap64 ((IntKind.u64.wrap a).tmod 20) = (j : Int) ∧ j < 20 := by
  rw [IntKind.wrap_u64, tmod_of_emod]
  unfold wrap64
  refine ⟨((a % 18446744073709551616) % 20).toNat, ?_, ?_⟩ <;> omega

/-- the cells of an array of 20 numbers. -/
def acells (x : Nat → Nat) : List Value := (List.range 20).map fun (i : Nat) => Value.int .u64 ((x i : Nat) : Int)

theorem acells_at (x : Nat → Nat) (j : Nat) (hj : j < 20) : (acells x)[j]? = some (.int .u64 ((x j : Nat) : Int)) := by
  unfold acells
  rw [List.getElem?_map, List.getElem?_range hj]
  rfl
theorem acells_set (x : Nat → Nat) (j v : Nat) : acells (fun m => if m = j then v else x m) = (acells x).set j (.int .u64 (v : Int)) := by
  unfold acells
  apply List.ext_getElem
  · simp
  · intro m h1 h2
    simp only [List.getElem_map, List.getElem_range, List.getElem_set]
    by_cases h : m = j
    · simp [h]
    · simp [h, Ne.symm h]
set_option maxHeartbeats 800000 in
theorem walk (a : Int) (A : Option Addr) (n c : Nat) (I : Nat → Int) (V : Nat → Nat) (w : World) (ho : Ops w w.heap.size A n I V) :
    Calls Try.prog 8 #[.int .i64 a, .slice A n c] w fun e w' => e = .returned (.bool true) ∧ Below w.heap.size w w' := by
  have HF := Lib.hid (first_any w)
  obtain ⟨k, hk, hk1, hk64⟩ := width_num a
  have HK := Lib.hid hk
  have HN : ∀ W, Hid (Calls Try.prog 10 #[.int .i64 (k : Int), .int .i64 20] W (NewFull W k 20)) := fun W => Lib.hid (new_full k 20 hk1 hk64 (by omega) W)
  clear hk
  go_enter Try.func8, Try.ntmps8
  go_wp2_with fail
  refine HF.out.mono ?_
  rintro e w1 ⟨rfl, hb1⟩
  go_wp2_with fail
  rw [HK.out]
  refine (HN _).out.mono ?_
  rintro e w2 ⟨g, gs, rfl, hg, hgs, hb2, ws, hp⟩
  have hB2 : Below w.heap.size w w2 := hb1.trans (hb2.mono hb1.size)
  go_upto_block 0 with (fail)
  have hA : Lies (w2.alloc (.cells (acells fun _ => 0).toArray 51)) w2.heap.size 51 (acells fun _ => 0) := lies_new w2 _ _
  have hp2 : Full (w2.alloc (.cells (acells fun _ => 0).toArray 51)) g gs k 20 ws (fun _ => 0) := ⟨hp.pk.alloc _, hp.holds, hp.few⟩
  have hB3 : Below w.heap.size w (w2.alloc (.cells (acells fun _ => 0).toArray 51)) := hB2.alloc hB2.size _
  have hlg := hp.pk.head.lt
  have hlgs := hp.pk.body.lt
  have hgB : w.heap.size ≤ g := Nat.le_trans hb1.size hg
  have hgsB : w.heap.size ≤ gs := Nat.le_trans hb1.size hgs
  have hgaB := hB2.size
  change Code.wp _ _ _ _ (w2.alloc (.cells (acells fun _ => 0).toArray 51))
  clear hp hb1 hb2 hB2 hg hgs
  generalize w2.alloc (.cells (acells fun _ => 0).toArray 51) = wl at hA hp2 hB3 ⊢
  generalize w2.heap.size = ga at hA hlg hlgs hgaB ⊢
  go_cut [] (fun wx => ∃ (x : Nat → Nat) (ws : List Nat), Full wx g gs k 20 ws x ∧ Lies wx ga 51 (acells x) ∧ Below w.heap.size w wx)
  case first =>
   go_wp2_with fail
   go_loopw [27] (fun v wr => ∃ (i : Nat) (x : Nat → Nat) (ws : List Nat), i ≤ n ∧ v = .int .i64 (i : Int) ∧ Full wr g gs k 20 ws x ∧ Lies wr ga 51 (acells x) ∧ Below w.heap.size w wr) (fun v _ => n - (intOf v).toNat)
   case atStart => exact ⟨0, _, _, Nat.zero_le _, rfl, hp2, hA, hB3⟩
   case round =>
    clear hA hp2 hB3
    obtain ⟨i, x, ws, hi, rfl, hp, hA, hB⟩ := hrel
    by_cases hlt : i < n
    · obtain ⟨ad, rfl, had, hI, hV, hV64, _, _⟩ := ho.below hB i hlt
      have HO := Lib.hid (lies_new wr 34 [.int .i64 (I i), .int .u64 ((V i : Nat) : Int)])
      have hp1 := hp.alloc (.cells #[.int .i64 (I i), .int .u64 ((V i : Nat) : Int)] 34)
      have hA1 := hA.alloc (.cells #[.int .i64 (I i), .int .u64 ((V i : Nat) : Int)] 34)
      have hB1 := hB.alloc hB.size (.cells #[.int .i64 (I i), .int .u64 ((V i : Nat) : Int)] 34)
      have hls := hA.lt
      have hls' := hp.pk.body.lt
      clear hp hA hB ho
      by_cases h100 : i < 100
      · obtain ⟨j, hj, hj20⟩ := place_num (I i)
        have HJ := Lib.hid hj
        have hv := cut_lt hV64 hk64
        clear hj
        go_wp2_with fail
        rw [HJ.out, shr_u]
        refine (hp1.set_ j _ hj20 hv).mono ?_
        rintro e w4 ⟨rfl, ws4, hp4, hg4⟩
        have hA4 := hA1.grown hg4 (by intro e; injection e with e; subst e; exact hA1.unlike hp1.pk.body (by decide) rfl)
        have hB4 : Below w.heap.size w w4 := hB1.trans (below_of_grownBy hg4 hgsB hB1.size)
        have ho4 := (HO.out.grown hg4 (by intro e; injection e; omega)).cell 1
        have ho4' : w4.cell? ⟨wr.heap.size, 1, none⟩ = some (.int .u64 ((V i : Nat) : Int)) := ho4
        have hc4 := (hA4.cell j).trans (acells_at x j hj20)
        have hf4 := hA4.free j
        clear hp1 hA1 hB1 hg4 ho4
        go_wp2_with fail
        go_roundw
        case rel =>
          rw [shr_u]
          exact ⟨i + 1, _, ws4, by omega, by go_num, hp4.far (by intro e; exact absurd e (by show ¬ g = ga; omega)) (by intro e; exact absurd e (by show ¬ gs = ga; omega)) _, by rw [acells_set]; exact hA4.put j _, hB4.setCell hgaB _⟩
        case measure => simp [intOf]; omega
      · go_wp2_with fail
        go_meet
        exact ⟨x, ws, hp1, hA1, hB1⟩
    · go_wp2_with fail
      go_meet
      exact ⟨x, ws, hp, hA, hB⟩
  case rest =>
    clear hA hp2 hB3
    obtain ⟨x, ws, hp, hA, hB⟩ := hcut
    go_wp2_with fail
    go_loopw [57] (fun v wr => ∃ i : Nat, i ≤ 20 ∧ v = .int .i64 (i : Int) ∧ Full wr g gs k 20 ws x ∧ Lies wr ga 51 (acells x) ∧ Below w.heap.size w wr) (fun v _ => 20 - (intOf v).toNat)
    case atStart => exact ⟨0, by omega, rfl, hp, hA, hB⟩
    case round =>
      clear hA hp hB
      obtain ⟨i, hi, rfl, hp, hA, hB⟩ := hrel
      by_cases hlt : i < 20
      · have hc := (hA.cell i).trans (acells_at x i hlt)
        go_wp2_with fail
        go_quiet ((go_at_call 14; exact quiet_keep ((hp.drewN _).get i hlt)))
        go_wp2_with fail
        go_roundw
        case rel => exact ⟨i + 1, by omega, by go_num, hp.drewN _, hA.drewN_ _, below_drewN' hB _⟩
        case measure => simp [intOf]; omega
      · have G := Lib.hid (hp.getOut 20 (by omega))
        go_wp2_with fail
        refine G.out.mono ?_
        rintro e w' ⟨rfl, rfl⟩
        go_wp2_with fail
        go_ret
        exact ⟨rfl, hB⟩

theorem own : ownKnob Try.prog.godebug = none := by kernel_rfl
theorem laidOut : laidOutB Try.prog = true := by kernel_rfl

set_option maxRecDepth 100000 in
theorem lifted (os : Os) (started : os.Started) (H : Type) (enc : TypeId × Value → H) :
    ReturnsInHanded {} Try.checked os 8 .any (Rows.packLastSpec.pre6 enc Try.prog Try.f8 Rows.packLastRow.domain false) (Rows.packLastSpec.post enc Try.prog Try.f8 false true false false) := by
  refine returnsInHanded_of_change (C := Try.checked) own started (by kernel_rfl) Try.func8
    (ChangeSpec.witness6 (enc := enc) (C := Try.checked) false ⟨#[], #[.int .i64 0, .slice none 0 0], []⟩ 8 (by kernel_rfl) (by kernel_rfl) (by kernel_rfl) (by kernel_rfl)) ?_
  intro W base args ds gs before hval0 hW hcnd _
  have hval : ∀ (j : Nat) t v, Try.f8.params[j]? = some t → args[j]? = some v → Value.okWide Try.prog W .any base t v := hval0
  have hW' := hW
  obtain ⟨p, q, hA0, hV, rfl, hfz, hnd⟩ := hW
  have hA : DataW.TrodAll enc Try.prog W 0 (fun _ => true) true Try.f8.params.toList args.toList ds p := hA0
  rw [Try.params8] at hA hval
  obtain ⟨v0, v1, d0, d1, p0, p1, rfl, rfl, rfl, h0, h1⟩ := trodAll_two hA
  obtain ⟨rfl, rfl⟩ := trodVars_none hV
  obtain ⟨a, rfl, rfl, rfl, wa⟩ := open_int Try.underlying3 (hval 0 3 v0 rfl rfl) h0
  obtain ⟨A, n, c, I, V, rfl, hn, ho⟩ := open_ops (hval 1 22 v1 rfl rfl) h1
  clear hA0 hval0
  refine (walk a A n c I V W ho).mono fun e W' ⟨he, hg⟩ => ?_
  subst he
  exact ⟨_, rfl, law_post laidOut rfl rfl rfl (by rw [Try.params8]; decide +kernel) hW' hg⟩

/-- The statement. -/
theorem proved : Rows.PackLastSaid :=
  OpenClaim.holds_of_wide 8 Try.f8 rfl rfl rfl rfl rfl rfl rfl ⟨rfl, rfl, rfl, rfl, rfl⟩ rfl rfl rfl rfl rfl (by kernel_rfl) Try.func8 (by kernel_rfl)
    (of_decide_eq_true (by kernel_rfl)) (by unfold Func.isWrapper; first | (rw [if_pos (by decide +kernel)]; kernel_rfl) | (rw [if_neg (by decide +kernel)]; exact ⟨rfl, rfl⟩))
    (fun os started H enc _ => lifted os started H enc)
#print axioms proved
end Go.Proofs.Ytlpoingajmogkaa.packLast
