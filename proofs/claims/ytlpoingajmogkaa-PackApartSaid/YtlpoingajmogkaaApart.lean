/- For every input colophonlaw01.PackApart returns true, and its arguments read as they read. No condition. -/
import Derived.Test.YtlpoingajmogkaaFirst
import Derived.Test.YtlpoingajmogkaaLaw
import Derived.Deep.QuietTactic
import Derived.BigQuiet
namespace Go.Proofs.Ytlpoingajmogkaa.packApart
open Go.ChangeShapes Go.WideShapes Go.ChangeAt Go.RowKit

theorem turn_num (a : Int) : ∃ t : Nat, wrap64 ((IntKind.u64.wrap a).tmod 80) = (t : Int) ∧ t < 80 := by
  rw [IntKind.wrap_u64, tmod_of_emod]
  unfold wrap64
  refine ⟨((a % 18446744073709551616) % 80).toNat, ?_, ?_⟩ <;> omega

/-- each place is met in a whole turn. -/
theorem met {n m t : Nat} (hm : m < n) : ∃ i, i < n ∧ (i + t) % n = m := by
  have hr : t % n < n := Nat.mod_lt _ (by omega)
  by_cases h : t % n ≤ m
  · refine ⟨m - t % n, by omega, ?_⟩
    rw [Nat.add_mod, Nat.mod_eq_of_lt (show m - t % n < n by omega), Nat.sub_add_cancel h, Nat.mod_eq_of_lt hm]
  · refine ⟨m + n - t % n, by omega, ?_⟩
    rw [Nat.add_mod, Nat.mod_eq_of_lt (show m + n - t % n < n by omega), Nat.sub_add_cancel (by omega), Nat.add_mod_right, Nat.mod_eq_of_lt hm]

set_option maxHeartbeats 800000 in
theorem walk (a b : Int) (A : Option Addr) (n c : Nat) (V : Nat → Nat) (w : World) (ho : Wds w w.heap.size A n V) :
    Calls Try.prog 6 #[.int .i64 a, .slice A n c, .int .i64 b] w fun e w' => e = .returned (.bool true) ∧ Below w.heap.size w w' := by
  have HF := Lib.hid (first_any w)
  obtain ⟨k, hk, hk1, hk64⟩ := width_num a
  have HK := Lib.hid hk
  obtain ⟨t, ht, ht80⟩ := turn_num b
  have HT := Lib.hid ht
  obtain ⟨m, hm, hmn, hm80⟩ : ∃ m : Nat, min (n : Int) 80 = (m : Int) ∧ m ≤ n ∧ m ≤ 80 := ⟨min n 80, by omega, by omega, by omega⟩
  have HM := Lib.hid hm
  have HN : ∀ W, Hid (Calls Try.prog 10 #[.int .i64 (k : Int), .int .i64 (m : Int)] W (NewFull W k m)) := fun W => Lib.hid (new_full k m hk1 hk64 (by omega) W)
  clear hk ht hm
  go_enter Try.func6, Try.ntmps6
  go_wp2_with fail
  refine HF.out.mono ?_
  rintro e w1 ⟨rfl, hb1⟩
  go_wp2_with fail
  rw [HK.out, HM.out]
  refine (HN _).out.mono ?_
  rintro e w2 ⟨g, gs, rfl, hg, hgs, hb2, ws, hp⟩
  have hB2 : Below w.heap.size w w2 := hb1.trans (hb2.mono hb1.size)
  have hgB : w.heap.size ≤ g := Nat.le_trans hb1.size hg
  have hgsB : w.heap.size ≤ gs := Nat.le_trans hb1.size hgs
  clear hb1 hb2 hg hgs
  go_wp2_with fail
  go_loopw [32] (fun v wr => ∃ (i : Nat) (x : Nat → Nat) (ws : List Nat), i ≤ m ∧ v = .int .i64 (i : Int) ∧ Full wr g gs k m ws x ∧ (∀ j, j < i → x ((j + t) % m) = V ((j + t) % m) / 2 ^ (64 - k)) ∧ Below w.heap.size w wr) (fun v _ => m - (intOf v).toNat)
  case atStart => exact ⟨0, _, _, Nat.zero_le _, rfl, hp, fun j hj => absurd hj (by omega), hB2⟩
  case round =>
    clear hp hB2
    obtain ⟨i, x, ws, hi, rfl, hp, hx, hB⟩ := hrel
    by_cases hlt : i < m
    · obtain ⟨q, hq⟩ : ∃ q, (i + t) % m = q := ⟨_, rfl⟩
      have hqm : q < m := by rw [← hq]; exact Nat.mod_lt _ (by omega)
      have hQ : ((i : Int) + (t : Int)) % (m : Int) = (q : Int) := by rw [← hq, ← Int.natCast_add]; exact (Int.natCast_emod _ _).symm
      have HQ := Lib.hid hq
      clear hq
      obtain ⟨ad, rfl, had, hV, hV64⟩ := ho.below hB q (by omega)
      have hT := HT.out
      have hv := cut_lt hV64 hk64
      have HX := Lib.hid hx
      clear hx ho
      go_wp2_with fail
      rw [shr_u]
      refine (hp.set_ q _ hqm hv).mono ?_
      rintro e w4 ⟨rfl, ws4, hp4, hg4⟩
      have hB4 : Below w.heap.size w w4 := hB.trans (below_of_grownBy hg4 hgsB hB.size)
      clear hp hB hg4
      go_wp2_with fail
      go_roundw
      case rel =>
        refine ⟨i + 1, _, ws4, by omega, by go_num, hp4, fun j hj => ?_, hB4⟩
        show (if (j + t) % m = q then V q / 2 ^ (64 - k) else x ((j + t) % m)) = _
        by_cases h : (j + t) % m = q
        · rw [if_pos h, h]
        · rw [if_neg h]
          by_cases hji : j = i
          · subst hji; exact absurd HQ.out h
          · exact HX.out j (by omega)
      case measure => simp [intOf]; omega
    · have hmi : i = m := by omega
      subst hmi
      have HX : Hid (∀ j, j < i → x j = V j / 2 ^ (64 - k)) := by
        intro j hj
        obtain ⟨l, hl, e⟩ := met (t := t) hj
        rw [← e]
        exact hx l hl
      clear hx
      go_wp2_with fail
      go_loopw [57] (fun v wr => ∃ j : Nat, j ≤ i ∧ v = .int .i64 (j : Int) ∧ Full wr g gs k i ws x ∧ Below w.heap.size w wr) (fun v _ => i - (intOf v).toNat)
      case atStart => exact ⟨0, Nat.zero_le _, rfl, hp, hB⟩
      case round =>
        clear hp hB
        obtain ⟨j, hj, rfl, hp, hB⟩ := hrel
        by_cases hlt2 : j < i
        · obtain ⟨ad, rfl, had, hV, hV64⟩ := ho.below hB j (by omega)
          have hxj : x j = V j / 2 ^ (64 - k) := HX.out j hlt2
          have G : ∀ q, Hid (Calls Try.prog 14 #[.pointer (some ⟨g, 0, none⟩), .int .i64 (j : Int)] (wr.drewN q) fun e w' => e = .returned (.int .u64 ((V j : Int) / 2 ^ (64 - k))) ∧ wr.drewN q = w') := fun q => by
            have c := (hp.drewN q).get j hlt2
            rw [hxj, ← shr_u] at c
            exact Lib.hid c
          clear hxj ho
          go_wp2_with fail
          go_quiet ((go_at_call 14; exact quiet_keep (G _).out))
          go_wp2_with fail
          go_roundw
          case rel => exact ⟨j + 1, by omega, by go_num, hp.drewN _, below_drewN' hB _⟩
          case measure => simp [intOf]; omega
        · clear hp
          go_wp2_with (first
            | (go_at_call 14; refine (get_nil _ _).mono ?_; rintro e w' ⟨rfl, rfl⟩)
            | (go_at_call 16; refine (set_nil _ _ _).mono ?_; rintro e w' ⟨rfl, rfl⟩)
            | (go_at_call 12; refine (len_nil _).mono ?_; rintro e w' ⟨rfl, rfl⟩)
            | (go_at_call 13; refine (width_nil _).mono ?_; rintro e w' ⟨rfl, rfl⟩)
            | (go_at_call 17; refine (words_nil _).mono ?_; rintro e w' ⟨rfl, rfl⟩))
          go_ret
          exact ⟨rfl, hB⟩

theorem own : ownKnob Try.prog.godebug = none := by kernel_rfl
theorem laidOut : laidOutB Try.prog = true := by kernel_rfl

set_option maxRecDepth 100000 in
theorem lifted (os : Os) (started : os.Started) (H : Type) (enc : TypeId × Value → H) :
    ReturnsInHanded {} Try.checked os 6 .any (Rows.packApartSpec.pre6 enc Try.prog Try.f6 Rows.packApartRow.domain false) (Rows.packApartSpec.post enc Try.prog Try.f6 false true false false) := by
  refine returnsInHanded_of_change (C := Try.checked) own started (by kernel_rfl) Try.func6
    (ChangeSpec.witness6 (enc := enc) (C := Try.checked) false ⟨#[], #[.int .i64 0, .slice none 0 0, .int .i64 0], []⟩ 8 (by kernel_rfl) (by kernel_rfl) (by kernel_rfl) (by kernel_rfl)) ?_
  intro W base args ds gs before hval0 hW hcnd _
  have hval : ∀ (j : Nat) t v, Try.f6.params[j]? = some t → args[j]? = some v → Value.okWide Try.prog W .any base t v := hval0
  have hW' := hW
  obtain ⟨p, q, hA0, hV, rfl, hfz, hnd⟩ := hW
  have hA : DataW.TrodAll enc Try.prog W 0 (fun _ => true) true Try.f6.params.toList args.toList ds p := hA0
  rw [Try.params6] at hA hval
  obtain ⟨v0, v1, v2, d0, d1, d2, p0, p1, p2, rfl, rfl, rfl, h0, h1, h2⟩ := trodAll_three hA
  obtain ⟨rfl, rfl⟩ := trodVars_none hV
  obtain ⟨a, rfl, rfl, rfl, wa⟩ := open_int Try.underlying3 (hval 0 3 v0 rfl rfl) h0
  obtain ⟨A, n, c, V, rfl, hn, _, ho⟩ := open_words (hval 1 32 v1 rfl rfl) h1
  obtain ⟨b, rfl, rfl, rfl, wb⟩ := open_int Try.underlying3 (hval 2 3 v2 rfl rfl) h2
  clear hA0 hval0
  refine (walk a b A n c V W ho).mono fun e W' ⟨he, hg⟩ => ?_
  subst he
  exact ⟨_, rfl, law_post laidOut rfl rfl rfl (by rw [Try.params6]; decide +kernel) hW' hg⟩

/-- The statement. -/
theorem proved : Rows.PackApartSaid :=
  OpenClaim.holds_of_wide 6 Try.f6 rfl rfl rfl rfl rfl rfl rfl ⟨rfl, rfl, rfl, rfl, rfl⟩ rfl rfl rfl rfl rfl (by kernel_rfl) Try.func6 (by kernel_rfl)
    (of_decide_eq_true (by kernel_rfl)) (by unfold Func.isWrapper; first | (rw [if_pos (by decide +kernel)]; kernel_rfl) | (rw [if_neg (by decide +kernel)]; exact ⟨rfl, rfl⟩))
    (fun os started H enc _ => lifted os started H enc)
#print axioms proved
end Go.Proofs.Ytlpoingajmogkaa.packApart
