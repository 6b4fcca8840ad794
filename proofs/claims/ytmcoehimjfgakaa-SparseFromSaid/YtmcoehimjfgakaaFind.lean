/- The contracts of find, Select and SelectZero of package rank, and of sort.Search as they call it. -/
import Derived.Test.YtmcoehimjfgakaaRank
import Derived.Deep.LoopGhost
import Derived.Deep.QuietTactic
import Derived.BigQuiet
import Derived.Deep.RegionWith
import Derived.Shelf.Abstract
namespace Go.Proofs.Ytmcoehimjfgakaa
open Go.RowKit

set_option maxRecDepth 100000 in
set_option maxHeartbeats 800000 in
/-- the literal that find hands to sort.Search: it calls the function value in its one cell, and holds the answer against the number in the other. -/
theorem closure_any (F : Nat) (eg : ∀ args w, (callFunc F args).run Try.prog w = .ok (.enter F args) w) (recv : Value) (bf bk i k m : Nat) (W : World) (hf : W.cell? ⟨bf, 0, none⟩ = some (.func (.func F) #[recv] #[])) (hk : W.cell? ⟨bk, 0, none⟩ = some (.int .i64 (k : Int)))
    (hi : i < 4194304) (hc : ∀ q, Calls Try.prog F #[recv, .int .i64 ((i : Int) + 1)] (W.drewN q) fun e w' => e = .returned (.int .i64 (m : Int)) ∧ W.drewN q = w') :
    Calls Try.prog 71 #[.int .i64 (i : Int), .pointer (some ⟨bf, 0, none⟩), .pointer (some ⟨bk, 0, none⟩)] W fun e w' => e = .returned (.bool (decide (k < m))) ∧ ∃ q, w' = W.drewN q := by
  have e1 : IntKind.i64.wrap ((i : Int) + 1) = (i : Int) + 1 := IntWalk.i64_in _ (by omega)
  have HC : Hid (Calls Try.prog F #[recv, .int .i64 ((i : Int) + 1)] W.drew fun e w' => e = .returned (.int .i64 (m : Int)) ∧ W.drew = w') := Lib.hid (hc 1)
  clear hc
  go_enter Try.func71, Try.ntmps71
  go_wp2_with fail
  go_region_with (go_at_fn F; refine HC.out.mono ?_; rintro e w' ⟨rfl, rfl⟩)
  all_goals go_wp2
  all_goals
    go_ret
    exact ⟨rfl, 1, rfl⟩

set_option maxRecDepth 100000 in
set_option maxHeartbeats 800000 in
/-- sort.Search, as find calls it: the place of the bit of number k. -/
theorem search_any (f : Nat → Bool) (n k : Nat) (lf lk : Value) (w : World) (hn : n ≤ 4194304) (hk : k < Pl.cnt f n)
    (hc : ∀ q i, i < n → Calls Try.prog 71 #[.int .i64 ((i : Nat) : Int), lf, lk] (w.drewN q) fun e w' => e = .returned (.bool (decide (k < Pl.cnt f (i + 1)))) ∧ ∃ q', w' = (w.drewN q).drewN q') :
    Calls Try.prog 33 #[.int .i64 (n : Int), .func (.func 71) #[] #[lf, lk]] w fun e w' => e = .returned (.int .i64 (Pl.sel f n k)) ∧ ∃ q, w' = w.drewN q := by
  have HF := Lib.hid hc
  have HK := Lib.hid hk
  clear hc hk
  go_enter Try.func33, Try.ntmps33
  go_wp2
  go_loopg [5, 6] n (fun kx s5 s6 wr => ∃ (lo hi q : Nat), s5 = .int .i64 lo ∧ s6 = .int .i64 hi ∧ lo ≤ hi ∧ hi ≤ n ∧ hi - lo ≤ kx ∧ wr = w.drewN q ∧
    Hid ((∀ t, t < lo → Pl.cnt f (t + 1) ≤ k) ∧ (∀ t, hi ≤ t → t < n → k < Pl.cnt f (t + 1))))
  case atStart => exact ⟨0, n, 0, rfl, rfl, Nat.zero_le _, Nat.le_refl _, by omega, rfl, Lib.hid ⟨fun t ht => absurd ht (Nat.not_lt_zero _), fun t h1 h2 => by omega⟩⟩
  case round =>
    obtain ⟨lo, hi, q, rfl, rfl, hlh, hin, hg, rfl, I⟩ := hrel
    by_cases hlt : lo < hi
    · obtain ⟨md, hmd⟩ : ∃ md : Nat, md = (lo + hi) / 2 := ⟨_, rfl⟩
      have hmd1 : lo ≤ md := by omega
      have hmd2 : md < hi := by omega
      have em : ((lo : Int) + (hi : Int)) / 2 = (md : Int) := by omega
      have hc := HF.out q md (by omega)
      clear hmd
      by_cases hp : k < Pl.cnt f (md + 1)
      · have ed : decide (k < Pl.cnt f (md + 1)) = true := by simpa using hp
        rw [ed] at hc
        have HC := Lib.hid hc
        have HP := Lib.hid hp
        clear hc hp ed
        go_wp2_with (go_at_call 71; refine HC.out.mono ?_; rintro e w' ⟨rfl, nq, rfl⟩)
        go_roundg (md - lo)
        case measure => omega
        case rel =>
          exact ⟨lo, md, q + nq, rfl, rfl, by omega, by omega, Nat.le_refl _, rfl, Lib.hid ⟨I.out.1, fun t ht htn => Nat.lt_of_lt_of_le HP.out (Pl.cnt_mono f (by omega))⟩⟩
      · have ed : decide (k < Pl.cnt f (md + 1)) = false := by simpa using hp
        rw [ed] at hc
        have HC := Lib.hid hc
        have HP := Lib.hid hp
        clear hc hp ed
        go_wp2_with (go_at_call 71; refine HC.out.mono ?_; rintro e w' ⟨rfl, nq, rfl⟩)
        go_roundg (hi - (md + 1))
        case measure => omega
        case rel =>
          exact ⟨md + 1, hi, q + nq, by go_num, rfl, by omega, hin, Nat.le_refl _, rfl, Lib.hid ⟨fun t ht => Nat.le_trans (Pl.cnt_mono f (show t + 1 ≤ md + 1 by omega)) (Nat.le_of_not_lt HP.out), I.out.2⟩⟩
    · obtain rfl : lo = hi := by omega
      have hs := Lib.hid (Pl.sel_found' hin HK.out I.out.1 I.out.2)
      go_wp2
      go_ret
      exact ⟨ret_i64 hs.out.symm, q, rfl⟩

/-- find where there is no such bit. -/
theorem find_out (v recv : Value) (F : Nat) (k : Int) (many : Nat) (w : World) (h : k < 0 ∨ (many : Int) ≤ k) :
    Calls Try.prog 65 #[v, .int .i64 k, .int .i64 (many : Int), .func (.func F) #[recv] #[]] w fun e w' => e = .returned (.int .i64 (-1)) ∧ Below w.heap.size w w' := by
  by_cases h0 : k < 0
  all_goals
    go_enter Try.func65, Try.ntmps65
    go_wp2_with fail
    go_ret
    exact ⟨rfl, ((Below.refl _ _).alloc (Nat.le_refl _) _).alloc (by simp) _⟩

/-- find where there is one. -/
theorem find_in (F : Nat) (eg : ∀ args w, (callFunc F args).run Try.prog w = .ok (.enter F args) w) (f : Nat → Bool) (g n k : Nat) (w : World) (hn : n ≤ 4194304) (hk : k < Pl.cnt f n) (h0 : w.cell? ⟨g, 0, none⟩ = some (.int .i64 (n : Int)))
    (hc : ∀ W, Below w.heap.size w W → ∀ i, i < n → Calls Try.prog F #[.pointer (some ⟨g, 0, none⟩), .int .i64 ((i : Int) + 1)] W fun e w' => e = .returned (.int .i64 ((Pl.cnt f (i + 1) : Nat) : Int)) ∧ W = w') :
    Calls Try.prog 65 #[.pointer (some ⟨g, 0, none⟩), .int .i64 (k : Int), .int .i64 ((Pl.cnt f n : Nat) : Int), .func (.func F) #[.pointer (some ⟨g, 0, none⟩)] #[]] w
      fun e w' => e = .returned (.int .i64 (Pl.sel f n k)) ∧ Below w.heap.size w w' := by
  obtain ⟨W0, hW0⟩ : ∃ W0, W0 = (w.alloc (.cells #[.int .i64 (k : Int)] 3)).alloc (.cells #[.func (.func F) #[.pointer (some ⟨g, 0, none⟩)] #[]] 30) := ⟨_, rfl⟩
  have hB0 : Below w.heap.size w W0 := by rw [hW0]; exact ((Below.refl _ _).alloc (Nat.le_refl _) _).alloc (by simp) _
  have l1 := lies_new w 3 [.int .i64 (k : Int)]
  have l2 := lies_new (w.alloc (.cells #[.int .i64 (k : Int)] 3)) 30 [.func (.func F) #[.pointer (some ⟨g, 0, none⟩)] #[]]
  have l1' : Lies W0 w.heap.size 3 [.int .i64 (k : Int)] := by rw [hW0]; exact l1.alloc _
  have l2' : Lies W0 (w.heap.size + 1) 30 [.func (.func F) #[.pointer (some ⟨g, 0, none⟩)] #[]] := by rw [hW0]; rw [size_alloc] at l2; exact l2
  have hg0 : W0.cell? ⟨g, 0, none⟩ = some (.int .i64 (n : Int)) := (hB0.cell (p := ⟨g, 0, none⟩) (World.block_lt_of_cell? _ _ h0)).trans h0
  rw [hW0] at hg0
  have hck := l1'.cell 0
  have hcf := l2'.cell 0
  have hm := Pl.cnt_le f n
  have HS := search_any f n k (.pointer (some ⟨w.heap.size + 1, 0, none⟩)) (.pointer (some ⟨w.heap.size, 0, none⟩)) W0 hn hk (fun q i hi =>
    closure_any F eg (.pointer (some ⟨g, 0, none⟩)) (w.heap.size + 1) w.heap.size i k (Pl.cnt f (i + 1)) (W0.drewN q) hcf hck (by omega) (fun q' => hc _ (below_drewN' (below_drewN' hB0 q) q') i hi))
  rw [hW0] at HS hB0
  have HH := Lib.hid HS
  have HB := Lib.hid hB0
  have d1 : decide ((k : Int) < 0) = false := by simp
  have d2 : decide (Pl.cnt f n ≤ k) = false := by simp; omega
  clear hW0 hB0 l1 l2 l1' l2' hck hcf HS hc W0
  generalize Pl.cnt f n = m at hk hm d2 ⊢
  go_enter Try.func65, Try.ntmps65
  go_wp2_with fail
  refine HH.out.mono ?_
  rintro e w' ⟨rfl, q, rfl⟩
  go_wp2_with fail
  go_ret
  exact ⟨rfl, below_drewN' HB.out q⟩

section
variable {w w' : World} {B g gw n : Nat} {av : Value} {ws : List Nat} {f : Nat → Bool}
theorem eg_rank : ∀ args w, (callFunc 66 args).run Try.prog w = .ok (.enter 66 args) w := enters_of Try.func66 (by kernel_rfl) rfl
theorem eg_zeros : ∀ args w, (callFunc 70 args).run Try.prog w = .ok (.enter 70 args) w := enters_of Try.func70 (by kernel_rfl) rfl

theorem find_rank (h : Vc w B g gw av n ws f) (k : Int) :
    Calls Try.prog 65 #[.pointer (some ⟨g, 0, none⟩), .int .i64 k, .int .i64 ((Pl.cnt f n : Nat) : Int), .func (.func 66) #[.pointer (some ⟨g, 0, none⟩)] #[]] w
      fun e w' => e = .returned (.int .i64 (Pl.sel f n k)) ∧ Below w.heap.size w w' := by
  by_cases hk : k < 0 ∨ ((Pl.cnt f n : Nat) : Int) ≤ k
  · rw [Pl.sel_out hk]
    exact find_out _ _ _ _ _ _ hk
  · obtain ⟨m, rfl⟩ : ∃ m : Nat, k = m := ⟨k.toNat, by omega⟩
    refine find_in 66 eg_rank f g n m w h.bits.few (by omega) h.c0 (fun W hb i hi => ?_)
    have c := rank_any (h.keep hb) ((i : Int) + 1)
    rw [show ((i : Int) + 1) = ((i + 1 : Nat) : Int) from rfl, Pl.clamp_nat (by omega)] at c
    exact c
theorem find_zeros (h : Vc w B g gw av n ws f) (k : Int) :
    Calls Try.prog 65 #[.pointer (some ⟨g, 0, none⟩), .int .i64 k, .int .i64 ((Pl.cnt (inv f) n : Nat) : Int), .func (.func 70) #[.pointer (some ⟨g, 0, none⟩)] #[]] w
      fun e w' => e = .returned (.int .i64 (Pl.sel (inv f) n k)) ∧ Below w.heap.size w w' := by
  by_cases hk : k < 0 ∨ ((Pl.cnt (inv f) n : Nat) : Int) ≤ k
  · rw [Pl.sel_out hk]
    exact find_out _ _ _ _ _ _ hk
  · obtain ⟨m, rfl⟩ : ∃ m : Nat, k = m := ⟨k.toNat, by omega⟩
    refine find_in 70 eg_zeros (inv f) g n m w h.bits.few (by omega) h.c0 (fun W hb i hi => ?_)
    have c := zeros_any (h.keep hb) ((i : Int) + 1)
    rw [show ((i : Int) + 1) = ((i + 1 : Nat) : Int) from rfl, Pl.clamp_nat (by omega)] at c
    exact c

theorem select_any (h : Vc w B g gw av n ws f) (k : Int) :
    Calls Try.prog 55 #[.pointer (some ⟨g, 0, none⟩), .int .i64 k] w fun e w' => e = .returned (.int .i64 (Pl.sel f n k)) ∧ Below w.heap.size w w' := by
  have HO := Lib.hid (vones_any h)
  have HF := Lib.hid (find_rank h k)
  clear h
  go_enter Try.func55, Try.ntmps55
  go_wp2_with (first
    | (go_at_call 54; refine HO.out.mono ?_; rintro e w' ⟨rfl, rfl⟩)
    | (go_at_call 65; refine HF.out.mono ?_; rintro e w1 ⟨rfl, hb⟩))
  go_ret
  exact ⟨rfl, hb⟩
theorem selectZero_any (h : Vc w B g gw av n ws f) (k : Int) :
    Calls Try.prog 64 #[.pointer (some ⟨g, 0, none⟩), .int .i64 k] w fun e w' => e = .returned (.int .i64 (Pl.sel (inv f) n k)) ∧ Below w.heap.size w w' := by
  have HO := Lib.hid (vones_any h)
  have HL := Lib.hid (vlen_any h)
  have HF := Lib.hid (find_zeros h k)
  have hn := Pl.cnt_not f n
  have hf := h.bits.few
  have e0 : (n : Int) - ((Pl.cnt f n : Nat) : Int) = ((Pl.cnt (inv f) n : Nat) : Int) := by unfold inv; omega
  clear h hn
  go_enter Try.func64, Try.ntmps64
  go_wp2_with (first
    | (go_at_call 56; refine HL.out.mono ?_; rintro e w' ⟨rfl, rfl⟩)
    | (go_at_call 54; refine HO.out.mono ?_; rintro e w' ⟨rfl, rfl⟩)
    | (go_at_call 65; refine HF.out.mono ?_; rintro e w1 ⟨rfl, hb⟩))
  go_ret
  exact ⟨rfl, hb⟩
theorem select_nil (k : Int) (w : World) :
    Calls Try.prog 55 #[.pointer none, .int .i64 k] w fun e w' => e = .returned (.int .i64 (-1)) ∧ Below w.heap.size w w' := by
  have HF := Lib.hid (find_out (.pointer none) (.pointer none) 66 k 0 w (by omega))
  go_enter Try.func55, Try.ntmps55
  go_wp2_with (first
    | (go_at_call 54; refine (vones_nil _).mono ?_; rintro e w' ⟨rfl, rfl⟩)
    | (go_at_call 65; refine HF.out.mono ?_; rintro e w1 ⟨rfl, hb⟩))
  go_ret
  exact ⟨rfl, hb⟩
theorem selectZero_nil (k : Int) (w : World) :
    Calls Try.prog 64 #[.pointer none, .int .i64 k] w fun e w' => e = .returned (.int .i64 (-1)) ∧ Below w.heap.size w w' := by
  have HF := Lib.hid (find_out (.pointer none) (.pointer none) 70 k 0 w (by omega))
  go_enter Try.func64, Try.ntmps64
  go_wp2_with (first
    | (go_at_call 56; refine (vlen_nil _).mono ?_; rintro e w' ⟨rfl, rfl⟩)
    | (go_at_call 54; refine (vones_nil _).mono ?_; rintro e w' ⟨rfl, rfl⟩)
    | (go_at_call 65; refine HF.out.mono ?_; rintro e w1 ⟨rfl, hb⟩))
  go_ret
  exact ⟨rfl, hb⟩
end
end Go.Proofs.Ytmcoehimjfgakaa
