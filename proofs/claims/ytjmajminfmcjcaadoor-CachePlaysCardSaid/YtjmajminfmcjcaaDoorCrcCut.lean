/- The contract of crc.Cut. -/
import Derived.Test.YtjmajminfmcjcaaDoorCrc
import Derived.Deep.RegionHeld3
import Derived.Deep.CutBlock
import Derived.Deep.DeepCutAuto
import Derived.Stop.BytesEq
namespace Go.Proofs.YtjmajminfmcjcaaDoor
open Go.RowKit

theorem below_drew' {B : Nat} {a w : World} (h : Below B a w) : Below B a w.drew := ⟨h.os, h.tape, h.output, h.size, h.block⟩
theorem ownsRow_lower {w : World} {B B' n : Nat} {t : TypeId} {v : Value} {cs : List Value} (h : w.ownsRow B t 1 v n cs) (hB : B' ≤ B) : w.ownsRow B' t 1 v n cs := by
  refine ⟨h.1, ?_⟩
  rcases h.2 with h' | ⟨g, cap, cur, e, hb, rest⟩
  · exact .inl h'
  · exact .inr ⟨g, cap, cur, e, Nat.le_trans hB hb, rest⟩
/-- what Cut leaves: too short, another sum, or the bytes ahead of the sum. -/
def CutPost (w : World) (n : Nat) (V : Nat → Nat) (e : Ending) (w' : World) : Prop :=
  (n < 4 → e = .returned (.tuple #[.slice none 0 0, .int .i64 50])) ∧
  (∀ m, n = m + 4 → ¬ Pl.Ends V m → e = .returned (.tuple #[.slice none 0 0, .int .i64 40])) ∧
  (∀ m, n = m + 4 → Pl.Ends V m → ∃ v, e = .returned (.tuple #[v, .int .i64 0]) ∧ w'.ownsRow w.heap.size 5 1 v m (ycells V m)) ∧ Below w.heap.size w w'

/-- bytes as the model's own. -/
theorem u8_list (a b c d : Nat) (ha : a < 256) (hb : b < 256) (hc : c < 256) (hd : d < 256) :
    (#[.int .u8 (a : Int), .int .u8 (b : Int), .int .u8 (c : Int), .int .u8 (d : Int)] : Array Value) = ([UInt8.ofNat a, UInt8.ofNat b, UInt8.ofNat c, UInt8.ofNat d].map Extern.Stop.cell).toArray := by
  simp [Extern.Stop.cell]
  omega
theorem size_u8 (w : World) : (sizeOf 5).run Tryd.prog w = .ok 1 w := by
  obtain ⟨i, hi, hz, hs, hb⟩ := info_parts info_u8
  simp [sizeOf, typeInfo, hi, hs]
/-- two rows of four bytes, held against each other. -/
theorem neq_four (a b c d e f g h : Nat) (ha : a < 256) (hb : b < 256) (hc : c < 256) (hd : d < 256) (he : e < 256) (hf : f < 256) (hg : g < 256) (hh : h < 256) (w : World) :
    (binOp .neq 108 (.agg #[.int .u8 (a : Int), .int .u8 (b : Int), .int .u8 (c : Int), .int .u8 (d : Int)]) (.agg #[.int .u8 (e : Int), .int .u8 (f : Int), .int .u8 (g : Int), .int .u8 (h : Int)])).run Tryd.prog w =
      .ok (.bool (!decide (a = e ∧ b = f ∧ c = g ∧ d = h))) w := by
  rw [run_neq_struct, u8_list a b c d ha hb hc hd, u8_list e f g h he hf hg hh, run_equalIn_bytes w 9998 108 5 4 Tryd.underlying108 Tryd.underlying5 size_u8 _ _ rfl rfl]
  have hx : ([UInt8.ofNat a, UInt8.ofNat b, UInt8.ofNat c, UInt8.ofNat d] == [UInt8.ofNat e, UInt8.ofNat f, UInt8.ofNat g, UInt8.ofNat h]) = decide (a = e ∧ b = f ∧ c = g ∧ d = h) := by
    rw [Bool.eq_iff_iff]
    simp only [beq_iff_eq, List.cons.injEq, and_true, decide_eq_true_eq]
    constructor
    · rintro ⟨h1, h2, h3, h4⟩
      exact ⟨u8_same ha he h1, u8_same hb hf h2, u8_same hc hg h3, u8_same hd hh h4⟩
    · rintro ⟨rfl, rfl, rfl, rfl⟩
      exact ⟨rfl, rfl, rfl, rfl⟩
  rw [hx]
  rfl

set_option maxRecDepth 100000 in
set_option maxHeartbeats 1600000 in
theorem cut_long (ad : Addr) (m n c : Nat) (V : Nat → Nat) (w : World) (hnm : n = m + 4) (hn : m ≤ 1048576) (hc : n ≤ c) (ho : Bys w w.heap.size (some ad) n V) (ht : Tabs w) :
    Calls Tryd.prog 57 #[.slice (some ad) n c] w (CutPost w n V) := by
  have HO := Lib.hid ho
  have HT := Lib.hid ht
  have HN := Lib.hid hnm
  have hmn : (n : Int) - 4 = (m : Int) := by omega
  have hd : decide ((n : Int) < 4) = false := by simp; omega
  have hne : c ≠ m := by omega
  have hmn2 : m ≤ n := by omega
  have hmc : (m : Int) ≤ (c : Int) := by omega
  have hat : ∀ W, (Instr.arrayAt 108 (.slice (some (ad.add m)) (n - m) (c - m))).run Tryd.prog W = .ok (.pointer (some (ad.add m))) W := fun W => run_arrayAt W 108 _ 4 _ (n - m) (c - m) Tryd.underlying108 (by omega)
  have hv := fun k (hk : k < 4) => byteOf_lt (Pl.sumN V m) k
  have hV := fun k (hk : k < 4) => show V (m + k) < 256 from (ho (m + k) (by omega)).elim fun _ h => h.2.2.2
  have hneq := neq_four (V m) (V (m + 1)) (V (m + 2)) (V (m + 3)) (byteOf (Pl.sumN V m) 0) (byteOf (Pl.sumN V m) 1) (byteOf (Pl.sumN V m) 2) (byteOf (Pl.sumN V m) 3) (by have := hV 0 (by omega); rwa [Nat.add_zero] at this) (hV 1 (by omega)) (hV 2 (by omega)) (hV 3 (by omega)) (byteOf_lt _ _) (byteOf_lt _ _) (byteOf_lt _ _) (byteOf_lt _ _)
  obtain ⟨b, hb⟩ : ∃ b, (!decide (V m = byteOf (Pl.sumN V m) 0 ∧ V (m + 1) = byteOf (Pl.sumN V m) 1 ∧ V (m + 2) = byteOf (Pl.sumN V m) 2 ∧ V (m + 3) = byteOf (Pl.sumN V m) 3)) = b := ⟨_, rfl⟩
  rw [hb] at hneq
  have HB := Lib.hid hb
  have HC : ∀ W : World, Below w.heap.size w W → W.cell? (ad.add m) = some (.int .u8 ((V m : Nat) : Int)) ∧ W.cell? ⟨(ad.add m).block, (ad.add m).off + 1, none⟩ = some (.int .u8 ((V (m + 1) : Nat) : Int)) ∧ W.cell? ⟨(ad.add m).block, (ad.add m).off + 2, none⟩ = some (.int .u8 ((V (m + 2) : Nat) : Int)) ∧ W.cell? ⟨(ad.add m).block, (ad.add m).off + 3, none⟩ = some (.int .u8 ((V (m + 3) : Nat) : Int)) ∧ Below w.heap.size w W := fun W hW => by
    have hk : ∀ k, k < 4 → W.cell? ((ad.add m).add k) = some (.int .u8 ((V (m + k) : Nat) : Int)) := fun k hk => by
      obtain ⟨ad', e, _, h1, _⟩ := (HO.out.below hW) (m + k) (by have := HN.out; omega)
      cases e
      rw [Addr.add_add]
      exact h1
    refine ⟨?_, hk 1 (by omega), hk 2 (by omega), hk 3 (by omega), hW⟩
    have := hk 0 (by omega)
    rwa [Nat.add_zero, show (ad.add m).add 0 = ad.add m by simp [Addr.add]] at this
  have HS : ∀ {W : World}, Below w.heap.size w W → Hid (Calls Tryd.prog 56 #[.slice (some ⟨W.heap.size, 0, none⟩) 1 1] (W.alloc (.cells #[.slice (some ad) m c] 31)) fun e w' => e = .returned (.int .u32 ((Pl.sumN V m : Nat) : Int)) ∧ Below W.heap.size W w') := fun {W} hW =>
    Lib.hid (sum_one (some ad) m c V W (by omega) (fun k hk => ((HO.out.below hW).mono_ hW.size) k (by have := HN.out; omega)) (HT.out.keep hW))
  have hw0 := below_drew' (Below.refl w.heap.size w)
  have hwa := fun o => below_drew' ((Below.refl w.heap.size w).alloc (Nat.le_refl _) o)
  have HS0 : Hid (Calls Tryd.prog 56 #[.slice (some ⟨w.heap.size, 0, none⟩) 1 1] (w.alloc (.cells #[.slice (some ad) m c] 31)).drew fun e w' => e = .returned (.int .u32 ((Pl.sumN V m : Nat) : Int)) ∧ Below w.heap.size w.drew w') := HS hw0
  have HCC := Lib.hid HC
  clear ho ht hb hv hV HC hnm
  go_enter Tryd.func57, Tryd.ntmps57
  go_upto_region 4 with (fail)
  go_cut [22] (fun s wx => s = .bool b ∧ Below w.heap.size w wx)
  case first =>
    go_region_held3 (fun w' => w'.cell? (ad.add m) = some (.int .u8 ((V m : Nat) : Int)) ∧ w'.cell? ⟨(ad.add m).block, (ad.add m).off + 1, none⟩ = some (.int .u8 ((V (m + 1) : Nat) : Int)) ∧ w'.cell? ⟨(ad.add m).block, (ad.add m).off + 2, none⟩ = some (.int .u8 ((V (m + 2) : Nat) : Int)) ∧ w'.cell? ⟨(ad.add m).block, (ad.add m).off + 3, none⟩ = some (.int .u8 ((V (m + 3) : Nat) : Int)) ∧ Below w.heap.size w w')
      ((first
        | exact HCC.out _ hw0
        | exact HCC.out _ (hwa _)
        | exact HCC.out _ hB1
        | exact HCC.out _ hB2))
      (first
        | (go_at_call 56; (with_reducible refine HS0.out.mono ?_); rintro e x1 ⟨rfl, hc1⟩; have hB1 := hw0.trans (hc1.mono hw0.size))
        | (go_at_call 55; (with_reducible refine (laid_lit _ _).mono ?_); rintro e x2 ⟨rfl, hc2⟩; have hB2 := hB1.trans (hc2.mono hB1.size)))
    all_goals
      go_wp2_with fail
      go_meet
      exact ⟨rfl, hB2⟩
  case rest =>
    obtain ⟨rfl, hB⟩ := hcut
    cases b
    · have hE : Pl.Ends V m := fun i hi => by
        have h := HB.out
        simp only [Bool.not_eq_false', decide_eq_true_eq] at h
        have hi' : i = 0 ∨ i = 1 ∨ i = 2 ∨ i = 3 := by omega
        rcases hi' with rfl | rfl | rfl | rfl
        · exact h.1
        · exact h.2.1
        · exact h.2.2.1
        · exact h.2.2.2
      have HE := Lib.hid hE
      have HK := Lib.hid (clone_any ad m c V wc hn (fun k hk => ((HO.out.below hB).mono_ hB.size) k (by have := HN.out; omega)))
      clear hE
      go_wp2_with fail
      refine HK.out.mono ?_
      rintro e w5 ⟨v, rfl, hown, hb5⟩
      go_wp2_with fail
      go_ret2
      refine ⟨fun h => by omega, fun m' h hno => ?_, fun m' h _ => ?_, hB.trans (hb5.mono hB.size)⟩
      · have e : m' = m := by have := HN.out; omega
        subst e
        exact absurd HE.out hno
      · have e : m' = m := by have := HN.out; omega
        subst e
        exact ⟨v, rfl, ownsRow_lower hown hB.size⟩
    · go_wp2_with fail
      go_ret2
      refine ⟨fun h => by omega, fun m' h _ => rfl, fun m' h hE => ?_, hB⟩
      have e : m' = m := by have := HN.out; omega
      subst e
      have h := HB.out
      simp only [Bool.not_eq_true', decide_eq_false_iff_not] at h
      exact absurd ⟨hE 0 (by omega), hE 1 (by omega), hE 2 (by omega), hE 3 (by omega)⟩ h

set_option maxRecDepth 100000 in
theorem cut_short (A : Option Addr) (n c : Nat) (V : Nat → Nat) (w : World) (hn : n < 4) : Calls Tryd.prog 57 #[.slice A n c] w (CutPost w n V) := by
  have hd : decide ((n : Int) < 4) = true := by simp; omega
  go_enter Tryd.func57, Tryd.ntmps57
  go_wp2_with fail
  go_ret2
  exact ⟨fun _ => rfl, fun m h => by omega, fun m h => by omega, Below.refl _ _⟩
theorem cut_any (A : Option Addr) (n c : Nat) (V : Nat → Nat) (w : World) (hn : n ≤ 1048576) (hA : A = none → n = 0 ∧ c = 0) (hc : n ≤ c) (ho : Bys w w.heap.size A n V) (ht : Tabs w) :
    Calls Tryd.prog 57 #[.slice A n c] w (CutPost w n V) := by
  by_cases h : n < 4
  · exact cut_short A n c V w h
  · rcases A with _ | ad
    · have := hA rfl
      omega
    · exact cut_long ad (n - 4) n c V w (by omega) (by omega) hc ho ht

/-- a row of the call's own, as a slice of bytes. -/
theorem row_bys {w : World} {base n : Nat} {v : Value} {V : Nat → Nat} (h : w.ownsRow base 5 1 v n (ycells V n)) (hV : ∀ j, j < n → V j < 256) :
    ∃ (A : Option Addr) (c : Nat), v = .slice A n c ∧ (A = none → n = 0 ∧ c = 0) ∧ n ≤ c ∧ Bys w w.heap.size A n V := by
  have hc := h
  rcases h.2 with ⟨rfl, rfl⟩ | ⟨g, cap, cur, rfl, hb, hg, hcap, rest⟩
  · exact ⟨none, 0, rfl, fun _ => ⟨rfl, rfl⟩, Nat.le_refl _, fun k hk => absurd hk (by omega)⟩
  · refine ⟨some ⟨g, 0, none⟩, cap, rfl, fun e => (by cases e), hcap, fun k hk => ⟨⟨g, 0, none⟩, rfl, (hc.lt g rfl).2, ?_, hV k hk⟩⟩
    exact hc.cells rfl k _ (ycells_at V n k hk)
theorem sumN_congr {V U : Nat → Nat} {n : Nat} (h : ∀ k, k < n → V k = U k) : Pl.sumN V n = Pl.sumN U n := by
  unfold Pl.sumN
  exact congrArg (· ^^^ Pl.allOnes) (Pl.more_congr Pl.allOnes h)
theorem behind_old (V : Nat → Nat) (n k : Nat) (h : k < n) : behind V n k = V k := by unfold behind both; rw [if_pos h]
theorem behind_new (V : Nat → Nat) (n i : Nat) : behind V n (n + i) = byteOf (Pl.sumN V n) i := by
  unfold behind both
  rw [if_neg (by omega), show n + i - n = i by omega]
theorem behind_ends (V : Nat → Nat) (n : Nat) : Pl.Ends (behind V n) n := fun i _ => by
  rw [behind_new, sumN_congr (fun k hk => behind_old V n k hk)]
  rfl
theorem ycells_congr {V U : Nat → Nat} {n : Nat} (h : ∀ k, k < n → V k = U k) : ycells V n = ycells U n := by
  unfold ycells
  apply List.map_congr_left
  intro k hk
  rw [h k (List.mem_range.1 hk)]
/-- what was put is cut. -/
theorem cut_put {w : World} {B n : Nat} {V : Nat → Nat} {v : Value} (hn : n + 4 ≤ 1048576) (h : w.ownsRow B 5 1 v (n + 4) (ycells (behind V n) (n + 4))) (hV : ∀ k, k < n → V k < 256) (ht : Tabs w) :
    Calls Tryd.prog 57 #[v] w fun e w' => ∃ u, e = .returned (.tuple #[u, .int .i64 0]) ∧ w'.ownsRow w.heap.size 5 1 u n (ycells V n) ∧ Below w.heap.size w w' := by
  obtain ⟨A, c, rfl, hA, hc, ho⟩ := row_bys h (fun j _ => behind_lt hV j)
  refine (cut_any A (n + 4) c (behind V n) w hn hA hc ho ht).mono ?_
  rintro e w' ⟨_, _, h3, hb⟩
  obtain ⟨u, rfl, hu⟩ := h3 n rfl (behind_ends V n)
  rw [ycells_congr (fun k hk => behind_old V n k hk)] at hu
  exact ⟨u, rfl, hu, hb⟩
/-- a row of the call's own, as a string. -/
theorem row_conv {w : World} {B n : Nat} {v : Value} {V : Nat → Nat} (h : w.ownsRow B 5 1 v n (ycells V n)) (hV : ∀ k, k < n → V k < 256) : (convert 31 9 v).run Tryd.prog w = .ok (.string (bstr V n)) w := by
  obtain ⟨A, c, rfl, _, _, ho⟩ := row_bys h hV
  exact ho.conv c
/-- a row of the call's own, put; and its sum. -/
theorem put_row {w : World} {B n : Nat} {V : Nat → Nat} {v : Value} (hn : n ≤ 1048576) (h : w.ownsRow B 5 1 v n (ycells V n)) (hV : ∀ k, k < n → V k < 256) (ht : Tabs w) :
    Calls Tryd.prog 50 #[v] w (PutPost w n V) := by
  obtain ⟨A, c, rfl, hA, hc, ho⟩ := row_bys h hV
  exact put_any A n c V w hn hA ho ht
theorem sum_row {w : World} {B n : Nat} {V : Nat → Nat} {v : Value} (hn : n ≤ 1048576) (h : w.ownsRow B 5 1 v n (ycells V n)) (hV : ∀ k, k < n → V k < 256) (ht : Tabs w) :
    Calls Tryd.prog 56 #[.slice (some ⟨w.heap.size, 0, none⟩) 1 1] (w.alloc (.cells #[v] 31)) fun e w' => e = .returned (.int .u32 ((Pl.sumN V n : Nat) : Int)) ∧ Below w.heap.size w w' := by
  obtain ⟨A, c, rfl, hA, hc, ho⟩ := row_bys h hV
  exact sum_one A n c V w (by omega) ho ht
end Go.Proofs.YtjmajminfmcjcaaDoor
