/- The walk of colophonlaw08.TextEnds, over what package text answers (TextI). -/
import Derived.Test.YtkhkjbhhkclnlaaTxtPlaces
import Derived.Test.YtkhkjbhhkclnlaaRange
import Derived.Deep.WholeRow
namespace Go.Proofs.Ytkhkjbhhkclnlaa
open Go.RowKit

theorem icells_set (V : Nat → Int) (n q : Nat) (v : Int) : (icells V n).set q (.int .i64 v) = icells (fun j => if q = j then v else V j) n := by
  unfold icells
  apply List.ext_getElem
  · simp
  · intro m h1 h2
    simp only [List.getElem_map, List.getElem_range, List.getElem_set]
    by_cases h : q = m
    · simp [h]
    · simp [h]
theorem info_many : (Try.prog.info? 43).map (fun i => (i.zero, i.size)) = some (some (.agg (icells (fun _ => 0) 256).toArray), 256) := by kernel_rfl
/-- which documents have ended. -/
def endsTo (d : Nat) : Nat → Int := fun j => if j < d then 1 else 0
theorem endsTo_next (d : Nat) : (fun j => if d = j then 1 else endsTo d j) = endsTo (d + 1) := by
  funext j
  unfold endsTo
  by_cases h : d = j
  · rw [if_pos h, if_pos (by omega)]
  · rw [if_neg h]
    by_cases h2 : j < d
    · rw [if_pos h2, if_pos (by omega)]
    · rw [if_neg h2, if_neg (by omega)]
/-- a row of bytes of the call's own, as a string. -/
theorem row_conv8 {w : World} {base n : Nat} {v : Value} {V : Nat → Nat} (h : w.ownsRow base 5 1 v n (ycells V n)) (hV : ∀ j, j < n → V j < 256) : ∃ (A : Option Addr) (c : Nat), v = .slice A n c ∧ Bys w w.heap.size A n V := by
  obtain ⟨A, c, e, _, _, hb⟩ := row_bys h hV
  exact ⟨A, c, e, hb⟩

theorem its_own {w : World} {B n : Nat} {v : Value} {V : Nat → Int} (h : w.ownsRow B 3 1 v n (icells V n)) (hV : ∀ i, i < n → -9223372036854775808 ≤ V i ∧ V i ≤ 9223372036854775807) : ∃ A c, v = .slice A n c ∧ Its w w.heap.size A n V ∧ ∀ ad : Addr, A = some ad → B ≤ ad.block := by
  obtain ⟨A, c, e, hI⟩ := Its.of_own h hV
  refine ⟨A, c, e, hI, fun ad ha => ?_⟩
  subst e ha
  rcases h.2 with ⟨h1, _⟩ | ⟨g, cap, cur, h1, hg, _⟩
  · cases h1
  · cases h1
    exact hg
/-- the bytes of a document, by its number. -/
def docV (S : List Sec) (d : Nat) : Nat → Nat := match S[d]? with
  | some x => x.V
  | none => fun _ => 0
theorem docV_at {S : List Sec} {d : Nat} {x : Sec} (h : S[d]? = some x) : docV S d = x.V := by unfold docV; rw [h]
theorem off_of_below {B : Nat} {gb : Nat} {A A' : World} (h : Below B A A') : Off (fun j => j ≠ gb ∧ j < B) A A' := ⟨h.os, h.tape, h.output, h.size, fun k _ hp => h.block k hp.2⟩

section
variable {At : Nat → World → Value → List Sec → Prop}
set_option maxRecDepth 100000 in
set_option maxHeartbeats 3200000 in
theorem txtEnds_walk (I : TextI At) (P : Option Addr) (c : Nat) (L : List Part) (w : World) (hl : L.length ≤ c) (hcm : c ≤ maxLen) (hP : P = none → L = [] ∧ c = 0) (ho : Secs w w.heap.size P L) :
    Calls Try.prog 6 #[.slice P L.length c] w fun e w' => e = .returned (.bool true) ∧ Below w.heap.size w w' := by
  have HI := Lib.hid I
  have HO := Lib.hid ho
  have HF := Lib.hid (tfirst_any I w)
  have HSm : Hid (∀ W, Below w.heap.size w W → Hid (Calls Try.prog 20 #[.slice P L.length c, .int .i64 3000, .int .i64 256] W fun e w' => e = .returned (.bool (decide (L.length ≤ 256 ∧ bytesT (docsP L) ≤ 3000))) ∧ W = w')) := Lib.hid fun W hW => Lib.hid (refSmall_any P c L w.heap.size 3000 256 W (by omega) (by decide) (by decide) (ho.below hW))
  have HNw : Hid (∀ W, Below w.heap.size w W → Hid (Calls Try.prog 8 #[.slice P L.length c] W fun e w' => (RightT (docsP L) → ∃ v, e = .returned (.tuple #[v, .int .i64 0]) ∧ At W.heap.size w' v (docsP L)) ∧ (¬ RightT (docsP L) → e = .returned (.tuple #[.pointer none, .int .i64 80])) ∧ Below W.heap.size W w')) := Lib.hid fun W hW => Lib.hid (I.new P c L W hl hcm hP ((ho.below hW).mono_ hW.size))
  obtain ⟨k, hk⟩ : ∃ k, L.length = k := ⟨_, rfl⟩
  obtain ⟨S, hS⟩ : ∃ S, docsP L = S := ⟨_, rfl⟩
  have hSk : S.length = k := by rw [← hS, docsP_length, hk]
  have HLS : Hid (∀ (d : Nat) (p : Part), L[d]? = some p → S[d]? = some p.sec) := Lib.hid fun d p h => by rw [← hS]; exact docsP_at h
  rw [hk, hS] at HSm HNw
  rw [hk]
  have HK := Lib.hid hk
  have HSk := Lib.hid hSk
  clear I ho hl hcm hP hk hS hSk
  go_enter Try.func6, Try.ntmps6
  go_wp2_with fail
  refine HF.out.mono ?_
  rintro e w0 ⟨rfl, hb0⟩
  have H1 := HSm.out w0 hb0
  by_cases hsm : k ≤ 256 ∧ bytesT S ≤ 3000
  · rw [decide_eq_true hsm] at H1
    have H2 := HNw.out w0 hb0
    have HR : Hid (RightT S) := Lib.hid ⟨by rw [HSk.out]; exact hsm.1, by omega⟩
    have hk256 := hsm.1
    have hlen : lenT S ≤ 3256 := by rw [lenT_is, HSk.out]; omega
    clear HF HSm HNw hsm
    go_wp2_with fail
    refine H1.out.mono ?_
    rintro e w' ⟨rfl, rfl⟩
    go_wp2_with fail
    refine H2.out.mono ?_
    rintro e w1 ⟨h1, _, hb1⟩
    obtain ⟨v, rfl, hAt⟩ := h1 HR.out
    obtain ⟨a, rfl⟩ := HI.out.ptr hAt
    have hB1 := hb0.trans (hb1.mono hb0.size)
    have hV := (HI.out.right hAt).2
    have HV := Lib.hid hV
    have hz := (zero_of_info info_many).1
    have hbz : Below w1.heap.size w1 (w1.alloc (.cells (icells (fun _ => 0) 256).toArray 43)) := (Below.refl _ _).alloc (Nat.le_refl _) _
    have hlz := lies_new w1 43 (icells (fun _ => 0) 256)
    have HAt := Lib.hid (HI.out.keep hAt hbz)
    have hBz := hB1.trans (hbz.mono hB1.size)
    have HLz := Lib.hid hlz
    have HBz := Lib.hid hBz
    obtain ⟨wz, hwz⟩ : ∃ W, w1.alloc (.cells (icells (fun _ => 0) 256).toArray 43) = W := ⟨_, rfl⟩
    obtain ⟨gb, hgb⟩ : ∃ g, w1.heap.size = g := ⟨_, rfl⟩
    have hzs : wz.heap.size = gb + 1 := by rw [← hwz, size_alloc, hgb]
    rw [hwz] at HAt HLz HBz
    rw [hgb] at HLz
    have H3 := Lib.hid (HI.out.symbols _ _ S wz HAt.out)
    have hgw : w.heap.size ≤ gb := by rw [← hgb]; exact hB1.size
    clear h1 hAt hb1 H1 H2 hV hbz hlz hBz
    go_wp2_with fail
    refine H3.out.mono ?_
    rintro e w2 ⟨u, rfl, hu, hb2⟩
    have hB2 := HBz.out.trans (hb2.mono HBz.out.size)
    have hzs2 := hb2.size
    obtain ⟨N, hN⟩ : ∃ N, lenT S = N := ⟨_, rfl⟩
    rw [hN] at hu hlen
    have HN := Lib.hid hN
    obtain ⟨X, cx, rfl, hX, hXb⟩ := its_own hu (fun i hi => by
      have h := sym_lt HV.out (p := i) (by rw [hN]; exact hi)
      rw [HSk.out] at h
      unfold symI
      omega)
    have HX := Lib.hid hX
    have HXb := Lib.hid hXb
    have HL2 : Hid (Lies w2 gb 43 (icells (endsTo 0) 256)) := Lib.hid (by
      have e : endsTo 0 = fun _ => 0 := rfl
      rw [e]
      exact HLz.out.below hb2 (by omega))
    clear hu hX hXb hb2 H3 HAt hN hz hwz hgb HLz HBz hB1
    go_wp2_with fail
    go_loopw [6, 7, 24] (fun s6 s7 v wr => ∃ p d o : Nat, p ≤ N ∧ d ≤ k ∧ v = .int .i64 (p : Int) ∧ s6 = .int .i64 (d : Int) ∧ Hid (p = offT S d + o) ∧ Hid (∀ x, S[d]? = some x → o ≤ x.n) ∧ Hid (d = k → o = 0) ∧ Hid (wr.ownsRow w2.heap.size 5 1 s7 o (ycells (docV S d) o)) ∧ Hid (Lies wr gb 43 (icells (endsTo d) 256)) ∧ Off (fun j => j ≠ gb ∧ j < w2.heap.size) w2 wr) (fun _ _ v _ => N - (intOf v).toNat)
    case atStart => exact ⟨0, 0, 0, Nat.zero_le _, Nat.zero_le _, rfl, rfl, Lib.hid rfl, Lib.hid (fun _ _ => Nat.zero_le _), Lib.hid (fun _ => rfl), Lib.hid (World.ownsRow_nil w2 _ _ _), HL2, Off.refl _ _⟩
    case round =>
      obtain ⟨p, d, o, hp, hdk, rfl, rfl, hpo, hox, hdo, hnow, hL, hoff⟩ := hrel
      have hBr : Below w.heap.size w wr := hB2.trans (Off.below hoff hB2.size (fun j hj => ⟨by omega, by have := hB2.size; omega⟩))
      have hors := hoff.size
      by_cases hlt : p < N
      · have hd : d < k := by
          by_cases e : d < k
          · exact e
          · exfalso
            obtain rfl : d = k := by omega
            have h1 := hpo.out
            rw [hdo.out rfl] at h1
            have h2 := HN.out
            unfold lenT at h2
            rw [HSk.out] at h2
            omega
        obtain ⟨pt, hpt⟩ : ∃ pt, L[d]? = some pt := ⟨_, List.getElem?_eq_getElem (by rw [HK.out]; exact hd)⟩
        have hx := HLS.out d pt hpt
        have hon : o ≤ pt.n := hox.out _ hx
        have hin := offT_in hx
        rw [HN.out] at hin
        have hin : offT S d + (pt.n + 1) ≤ N := hin
        have hlti : (p : Int) < (N : Int) := by omega
        have hdV : docV S d = pt.V := docV_at hx
        obtain ⟨adx, rfl, hxb, hxc, _, _⟩ := HX.out p hlt
        have hxne : adx.block ≠ gb := by have := HXb.out adx rfl; omega
        have hxr : wr.cell? (adx.add p) = some (.int .i64 (symI S p)) := hoff.cell hxc (by rw [add_block]; exact ⟨hxne, hxb⟩)
        have hbV : ∀ j, j < pt.n → pt.V j < 256 := fun j hj => HV.out _ (List.mem_of_getElem? hx) j hj
        have HXd := Lib.hid hx
        have HPt := Lib.hid hpt
        rw [hdV] at hnow
        have HdV := Lib.hid hdV
        have HbV := Lib.hid hbV
        clear hpt hx hxc hdV hbV
        obtain ⟨A, z, cc, V⟩ := pt
        have hzN : z ≤ N := by
          have : offT S d + (z + 1) ≤ N := hin
          omega
        by_cases hlast : o = z
        · subst hlast
          have HSy : symI S p = (d : Int) := by
            have h2 : symT S (offT S d + o) = d := sym_end HXd.out
            unfold symI
            rw [hpo.out, h2]
          rw [HSy] at hxr
          have hge : decide ((k : Int) ≤ (d : Int)) = false := by simp; omega
          have htm : (d : Int).tmod 256 = (d : Int) := by rw [Int.tmod_eq_emod_of_nonneg (by omega)]; omega
          have hd256 : (d : Int) < 256 := by omega
          have hcell : wr.cell? ⟨gb, d, none⟩ = some (.int .i64 0) := by
            rw [hL.out.cell, icells_at _ _ _ (by omega)]
            unfold endsTo
            rw [if_neg (by omega)]
          have hfree := hL.out.free d
          obtain ⟨ws, hws⟩ : ∃ W, wr.setCell ⟨gb, d, none⟩ (.int .i64 1) = W := ⟨_, rfl⟩
          have hLs : Lies ws gb 43 (icells (endsTo (d + 1)) 256) := by
            have h := hL.out.put d (.int .i64 1)
            rw [icells_set, endsTo_next] at h
            rw [← hws]
            exact h
          have hoffs : Off (fun j => j ≠ gb ∧ j < w2.heap.size) w2 ws := by
            rw [← hws]
            exact hoff.trans (Off.setCell (fun h => h.1 rfl) _)
          have hBs : Below w.heap.size w ws := hB2.trans (Off.below hoffs hB2.size (fun j hj => ⟨by omega, by have := hB2.size; omega⟩))
          have hnows : ws.ownsRow w2.heap.size 5 1 u7 o (ycells V o) := by
            rw [← hws]
            exact ownsRow_setCell_below hnow.out (a := ⟨gb, d, none⟩) (by show gb < w2.heap.size; omega) _
          obtain ⟨Y, cy, rfl, hYb⟩ := row_conv8 hnows (fun j hj => HbV.out j hj)
          have hc1 : ∀ q, (convert 24 9 (.slice Y o cy)).run Try.prog (ws.drewN q) = .ok (.string (bstr V o)) (ws.drewN q) := fun q => (Bys.conv (w := ws.drewN q) (B := ws.heap.size) (fun j hj => hYb j hj) cy)
          obtain ⟨ad, rfl, had, hq1, _⟩ := doc_cell HO.out hBs HPt.out
          have hq2 : ∀ q, (ws.drewN q).cell? (ad.add d) = some (.slice A o cc) := fun q => hq1
          obtain ⟨ad', e', h2', _, h4', h5', _, hby⟩ := (HO.out.below hBs) d _ HPt.out
          cases e'
          have hc2 : ∀ q, (convert 24 9 (.slice A o cc)).run Try.prog (ws.drewN q) = .ok (.string (bstr V o)) (ws.drewN q) := fun q => (Bys.conv (w := ws.drewN q) (B := w.heap.size) (fun j hj => hby j hj) cc)
          have hdki : (d : Int) < (k : Int) := by omega
          have HP2 : Hid (p + 1 = offT S (d + 1) + 0) := Lib.hid (by
            rw [offT_succ HXd.out, hpo.out]
            show offT S d + o + 1 = offT S d + (o + 1) + 0
            omega)
          have HLs := Lib.hid hLs
          clear HSy hq1 hby hLs hnows hYb h5' hnow hL
          go_wp2_with fail
          go_quiet (fail)
          go_wp2_with fail
          go_roundw
          case rel => exact ⟨p + 1, d + 1, 0, by omega, by omega, by go_num, by go_num, HP2, Lib.hid (fun _ _ => Nat.zero_le _), Lib.hid (fun _ => rfl), Lib.hid (World.ownsRow_nil _ _ _ _), Lib.hid (HLs.out.drewN _), ⟨hoffs.os, hoffs.tape, hoffs.output, hoffs.size, hoffs.block⟩⟩
          case measure => simp [intOf]; omega
        · have hol : o < z := by
            have : o ≤ z := hon
            omega
          have HSy : symI S p = (k : Int) + ((V o : Nat) : Int) := by
            have h2 : symT S (offT S d + o) = S.length + V o := sym_byte HXd.out (show o < z from hol)
            unfold symI
            rw [hpo.out, h2, HSk.out]
            omega
          rw [HSy] at hxr
          have hVo : V o < 256 := HbV.out o hol
          have hge : decide ((k : Int) ≤ (k : Int) + ((V o : Nat) : Int)) = true := decide_eq_true (by omega)
          have hw1 : IntKind.i64.wrap ((k : Int) + ((V o : Nat) : Int) - (k : Int)) = ((V o : Nat) : Int) := by rw [IntWalk.i64_in _ (by omega)]; omega
          have hw2 : IntKind.u8.wrap ((V o : Nat) : Int) = ((V o : Nat) : Int) := by rw [IntKind.wrap_u8]; omega
          have hw3 : (k : Int) + ((V o : Nat) : Int) - (k : Int) = ((V o : Nat) : Int) := by omega
          have HP2 : Hid (p + 1 = offT S d + (o + 1)) := Lib.hid (by rw [hpo.out]; omega)
          have HO2 : Hid (∀ x, S[d]? = some x → o + 1 ≤ x.n) := Lib.hid fun x hx => by
            rw [HXd.out] at hx
            cases hx
            exact hol
          clear HSy
          go_wp2_with (at_builtin; refine step_append_byte rfl (.tmp 32) (.tmp 38) rfl rfl hnow.out _ rfl hors (by omega) ?_; intro v3 w3 hown3 hb3)
          rw [← ycells_snoc] at hown3
          go_roundw
          case rel => exact ⟨p + 1, d, o + 1, by omega, hdk, by go_num, rfl, HP2, HO2, Lib.hid (fun h => by omega), by rw [HdV.out]; exact hown3, Lib.hid (hL.out.below hb3 (by omega)), hoff.trans (off_of_below hb3)⟩
          case measure => simp [intOf]; omega
      · obtain rfl : p = N := by omega
        have hd : d = k := by
          by_cases e : d < k
          · exfalso
            obtain ⟨x, hx⟩ : ∃ x, S[d]? = some x := ⟨_, List.getElem?_eq_getElem (by rw [HSk.out]; exact e)⟩
            have h1 := offT_in hx
            have h2 := hox.out x hx
            have h3 := hpo.out
            have h4 := HN.out
            omega
          · omega
        subst hd
        have ho0 := hdo.out rfl
        subst ho0
        obtain ⟨Y, cy, rfl, _⟩ := row_conv8 hnow.out (fun j hj => absurd hj (Nat.not_lt_zero j))
        have HLr := hL
        clear hnow hL
        go_wp2_with fail
        rename World => wk
        go_loopw [64] (fun v wy => ∃ i : Nat, i ≤ d ∧ v = .int .i64 (i : Int) ∧ wk = wy) (fun v _ => d - (intOf v).toNat)
        case atStart => exact ⟨0, Nat.zero_le _, rfl, rfl⟩
        case round =>
          obtain ⟨i, hi, rfl, rfl⟩ := hrel
          by_cases hil : i < d
          · have hii : (i : Int) < (d : Int) := by omega
            have hi256 : (i : Int) < 256 := by omega
            have hcell : wk.cell? ⟨gb, i, none⟩ = some (.int .i64 1) := by
              rw [HLr.out.cell, icells_at _ _ _ (by omega)]
              unfold endsTo
              rw [if_pos hil]
            go_wp2_with fail
            go_roundw
            case rel => exact ⟨i + 1, by omega, by go_num, by trivial⟩
            case measure => simp [intOf]; omega
          · obtain rfl : i = d := by omega
            go_wp2_with fail
            go_ret
            exact ⟨rfl, hBr⟩
  · rw [decide_eq_false hsm] at H1
    clear HF HSm HNw hsm
    go_wp2_with fail
    refine H1.out.mono ?_
    rintro e w' ⟨rfl, rfl⟩
    go_wp2_with fail
    go_ret
    exact ⟨rfl, hb0⟩
end
end Go.Proofs.Ytkhkjbhhkclnlaa
