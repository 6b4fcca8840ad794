/- For every input colophonlaw01.PackPlays returns true, and its arguments read as they read. No condition. -/
import Derived.Test.YtlpoingajmogkaaPlayParts
namespace Go.Proofs.Ytlpoingajmogkaa.packPlays
open Go.ChangeShapes Go.WideShapes Go.ChangeAt Go.RowKit

set_option maxRecDepth 100000 in
set_option maxHeartbeats 6400000 in
theorem walk_few (k n : Nat) (A : Option Addr) (L c : Nat) (I : Nat → Int) (V : Nat → Nat) (w : World) (hk1 : 1 ≤ k) (hk : k ≤ 64) (hn : n ≤ 500) (ho : Ops w w.heap.size A L I V) :
    Calls Try.prog 3 #[.int .i64 (k : Int), .int .i64 (n : Int), .slice A L c] w fun e w' => e = .returned (.bool true) ∧ Below w.heap.size w w' := by
  have HF := Lib.hid (first_any w)
  have HB := Lib.hid (show rightB (k : Int) (n : Int) = true by unfold rightB; simp; omega)
  have HO := Lib.hid ho
  clear ho
  go_enter Try.func3, Try.ntmps3
  go_wp2_with fail
  refine HF.out.mono ?_
  rintro e w1 ⟨rfl, hb1⟩
  go_wp2_with fail
  refine (new_full k n hk1 hk (by omega) w1).mono ?_
  rintro e w2 ⟨g, gs, rfl, hg, hgs, hb2, ws, hp⟩
  have hbB := hb1.trans (hb2.mono hb1.size)
  have HL := Lib.hid (len_any hp.pk)
  have HWd := Lib.hid (width_any hp.pk)
  have hgB : w.heap.size ≤ g := Nat.le_trans hb1.size hg
  have hgsB : w.heap.size ≤ gs := Nat.le_trans hb1.size hgs
  clear hb1 hb2 hg hgs
  go_wp2_with fail
  refine (right_any (k : Int) (n : Int) _).mono ?_
  rintro e w' ⟨rfl, rfl⟩
  rw [HB.out]
  go_wp2_with fail
  refine HL.out.mono ?_
  rintro e w' ⟨rfl, rfl⟩
  go_wp2_with fail
  refine HWd.out.mono ?_
  rintro e w' ⟨rfl, rfl⟩
  have hmk := make_words n (by omega)
  go_wp2_with fail
  have hX : Lies (w2.alloc (.cells (wcells (List.replicate n 0)).toArray 30)) w2.heap.size 30 (wcells (List.replicate n 0)) := lies_new w2 _ _
  have hp2 : Full (w2.alloc (.cells (wcells (List.replicate n 0)).toArray 30)) g gs k n ws (fun j => (List.replicate n 0).getD j 0) := Full.congr ⟨hp.pk.alloc _, hp.holds, hp.few⟩ (fun j hj => by
    rw [List.getD_eq_getElem?_getD, List.getElem?_replicate, if_pos hj]
    rfl)
  have hB3 : Below w.heap.size w (w2.alloc (.cells (wcells (List.replicate n 0)).toArray 30)) := hbB.alloc hbB.size _
  have hlg := hp.pk.head.lt
  have hlgs := hp.pk.body.lt
  have hgaB := hbB.size
  clear hp hbB hmk HF HB HL HWd
  generalize w2.alloc (.cells (wcells (List.replicate n 0)).toArray 30) = wl at hX hp2 hB3 ⊢
  generalize w2.heap.size = gx at hX hlg hlgs hgaB ⊢
  go_loopg [66] L (fun q v wr => ∃ (i : Nat) (ws xs : List Nat), i + q = L ∧ v = .int .i64 (i : Int) ∧ xs.length = n ∧ Pl.Small xs ∧ Full wr g gs k n ws (fun j => xs.getD j 0) ∧ Lies wr gx 30 (wcells xs) ∧ Below w.heap.size w wr)
  case atStart => exact ⟨0, ws, _, by omega, rfl, by simp, Pl.small_zeros n, hp2, hX, hB3⟩
  case round =>
    clear hX hp2 hB3
    obtain ⟨i, ws, xs, hiq, rfl, hxl, hxs, hp, hX, hB⟩ := hrel
    by_cases hlt : i < L
    · obtain ⟨ad, rfl, had, hI, hV, hV64, hI1, hI2⟩ := HO.out.below hB i hlt
      have HOn := Lib.hid (lies_new wr 34 [.int .i64 (I i), .int .u64 ((V i : Nat) : Int)])
      have hp1 := hp.alloc (.cells #[.int .i64 (I i), .int .u64 ((V i : Nat) : Int)] 34)
      have hX1 := hX.alloc (.cells #[.int .i64 (I i), .int .u64 ((V i : Nat) : Int)] 34)
      have hB1 := hB.alloc hB.size (.cells #[.int .i64 (I i), .int .u64 ((V i : Nat) : Int)] 34)
      have hls := hX.lt
      have hls' := hp.pk.body.lt
      have hls'' := hp.pk.head.lt
      have HXl := Lib.hid hxl
      clear hp hX hB hxl
      by_cases h60 : i < 60
      · go_upto_region 15 with fail
        generalize wr.alloc (.cells #[.int .i64 (I i), .int .u64 ((V i : Nat) : Int)] 34) = w1 at HOn hp1 hX1 hB1 ⊢
        generalize wr.heap.size = gq at HOn hls hls' hls'' ⊢
        have ho0 : w1.cell? ⟨gq, 0, none⟩ = some (.int .i64 (I i)) := HOn.out.cell 0
        have ho1 : w1.cell? ⟨gq, 1, none⟩ = some (.int .u64 ((V i : Nat) : Int)) := HOn.out.cell 1
        clear hI hV
        generalize I i = pl at HOn ho0 hI1 hI2 ⊢
        generalize V i = nu at HOn ho1 hV64 ⊢
        go_cut [12] (fun s12 wx => s12 = .bool (okB k n pl nu) ∧ wx = w1)
        case first =>
          by_cases c1 : 0 ≤ pl
          · by_cases c2 : pl < (n : Int)
            · have HFi := Lib.hid (fits_any k nu hk hV64 w1)
              have HOk := Lib.hid (show okB k n pl nu = decide (nu < 2 ^ k) by unfold okB; simp [c1, c2])
              go_wp2_with fail
              refine HFi.out.mono ?_
              rintro e w' ⟨rfl, rfl⟩
              go_wp2_with fail
              go_meet
              rw [HOk.out]
              exact ⟨rfl, rfl⟩
            · have HOk := Lib.hid (show okB k n pl nu = false by unfold okB; simp [c2])
              go_wp2_with fail
              go_meet
              rw [HOk.out]
              exact ⟨rfl, rfl⟩
          · have HOk := Lib.hid (show okB k n pl nu = false by unfold okB; simp [c1])
            go_wp2_with fail
            go_meet
            rw [HOk.out]
            exact ⟨rfl, rfl⟩
        case rest =>
          obtain ⟨rfl, rfl⟩ := hcut
          obtain ⟨ok, hok⟩ : ∃ ok, okB k n pl nu = ok := ⟨_, rfl⟩
          have HS := Lib.hid (set_gen hp1 HXl.out pl nu)
          unfold SetGen at HS
          rw [hok] at HS ⊢
          have HOk := Lib.hid hok
          clear hok
          go_upto_if 96 with (go_at_call 16; refine HS.out.mono ?_; rintro e w4 ⟨rfl, ws4, hp4, hg4⟩)
          have hX4 := hX1.grown hg4 (by intro e; injection e; omega)
          have hp0 := (HOn.out.grown hg4 (by intro e; injection e; omega)).cell 0
          have hp9 := (HOn.out.grown hg4 (by intro e; injection e; omega)).cell 1
          have ho0' : w4.cell? ⟨gq, 0, none⟩ = some (.int .i64 pl) := hp0
          have ho1' : w4.cell? ⟨gq, 1, none⟩ = some (.int .u64 (nu : Int)) := hp9
          have hB4 : Below w.heap.size w w4 := hB1.trans (below_of_grownBy hg4 hgsB hB1.size)
          have hyl := putX_len (width := k) (i := pl) (v := nu) HXl.out
          have hys := putX_small (width := k) (n := n) (i := pl) hxs hV64
          clear ho0 ho1 hp0 hp9 hp1 hX1 hB1 hg4
          go_cut [] (fun wx => ∃ ws : List Nat, Full wx g gs k n ws (fun j => (putX k n pl nu xs).getD j 0) ∧ Lies wx gx 30 (wcells (putX k n pl nu xs)) ∧ Below w.heap.size w wx)
          case first =>
            clear hyl hys
            cases ok with
            | false =>
              go_wp2_with fail
              go_meet
              have e : putX k n pl nu xs = xs := by unfold putX; rw [HOk.out]; rfl
              rw [e] at hp4 ⊢
              exact ⟨ws4, hp4, hX4, hB4⟩
            | true =>
              have hok := HOk.out
              unfold okB at hok
              simp only [decide_eq_true_eq] at hok
              obtain ⟨k0, k1, _⟩ := hok
              obtain ⟨j, rfl⟩ : ∃ j : Nat, pl = (j : Int) := ⟨pl.toNat, by omega⟩
              have hjn : j < n := by omega
              have hcx := (hX4.cell j).trans (wcells_at xs j (by rw [HXl.out]; exact hjn))
              have hfx := hX4.free j
              go_wp2_with fail
              go_meet
              have e : putX k n (j : Int) nu xs = xs.set j nu := by unfold putX; rw [HOk.out, if_pos rfl, Int.toNat_natCast]
              rw [e] at hp4 ⊢
              exact ⟨ws4, hp4.far (by show g ≠ gx; omega) (by show gs ≠ gx; omega) _, by rw [wcells_set]; exact hX4.put j _, hB4.setCell hgaB _⟩
          case rest =>
            clear hp4 hX4 hB4 ho0' ho1' HOn HOk HS
            obtain ⟨ws5, hp5, hX5, hB5⟩ := hcut
            generalize putX k n pl nu xs = ys at hyl hys hp5 hX5
            have HYl := Lib.hid hyl
            have HWo := Lib.hid (words_any hp5.pk hp5.short)
            unfold CopyPost at HWo
            clear hyl
            go_wp2_with fail
            refine HWo.out.mono ?_
            rintro e w6 ⟨g7, rfl, hg7, hl7, hb7⟩
            have hp6 := hp5.below hb7 hp5.pk.head.lt hp5.pk.body.lt
            have hX6 := hX5.below hb7 hX5.lt
            have hB6 : Below w.heap.size w w6 := hB5.trans (hb7.mono hB5.size)
            have hg7g : g < g7 := Nat.lt_of_lt_of_le hp5.pk.head.lt hg7
            have hg7gs : gs < g7 := Nat.lt_of_lt_of_le hp5.pk.body.lt hg7
            have hg7gx : gx < g7 := Nat.lt_of_lt_of_le hX5.lt hg7
            have hgw7 : w.heap.size ≤ g7 := Nat.le_trans hB5.size hg7
            clear hp5 hX5 hB5 hb7 hg7 HWo
            obtain ⟨L5, hL5⟩ : ∃ L5, ws5.length = L5 := ⟨_, rfl⟩
            have HL5 := Lib.hid hL5
            rw [hL5]
            have HBi := Lib.hid (bits_any (fun j => ys.getD j 0) ws5 k n (some ⟨gx, 0, none⟩) n w6 (by omega) (lies_wds hX6 HYl.out hys) hp6.holds)
            unfold BitsPost at HBi
            clear hL5
            go_wp2_with fail
            refine HBi.out.mono ?_
            rintro e w7 ⟨v, rfl, hown, hb8⟩
            obtain ⟨A2, c2, rfl, hbts⟩ := Bts.of_own hown
            have hp7 := hp6.below hb8 hp6.pk.head.lt hp6.pk.body.lt
            have hX7 := hX6.below hb8 hX6.lt
            have hl8 := hl7.below hb8 hl7.lt
            have hB7 : Below w.heap.size w w7 := hB6.trans (hb8.mono hB6.size)
            have hnk : n * k ≤ 500 * 64 := Nat.mul_le_mul hn hk
            have HRw := Lib.hid (refWords_any (Pl.bitAt ws5) (n * k) w6.heap.size A2 c2 w7 (by omega) hbts)
            unfold WordsPost at HRw
            clear hown hb8 hp6 hX6 hl7 hB6 hbts HBi hnk
            go_wp2_with fail
            refine HRw.out.mono ?_
            rintro e w8 ⟨v2, os, rfl, hown, hup, hb9⟩
            have hp8 := hp7.below hb9 hp7.pk.head.lt hp7.pk.body.lt
            have hX8 := hX7.below hb9 hX7.lt
            have hl9 := hl8.below hb9 hl8.lt
            have hB8 : Below w.heap.size w w8 := hB7.trans (hb9.mono hB7.size)
            obtain rfl : os = ws5 := words_ext (by rw [hup.len, hp8.holds.len]) hup.small hp8.holds.small (fun b => by
              rw [hup.bits b]
              by_cases hbn : b < n * k
              · simp [hbn]
              · rw [hp8.holds.behind b (by omega)]
                simp)
            obtain ⟨A3, c3, rfl, hwds⟩ := own_wds hown hp8.holds.small
            have hlen5 : (n * k + 63) / 64 = L5 := by rw [← hp8.holds.len]; exact HL5.out
            rw [hlen5] at hwds ⊢
            have hL5b : L5 ≤ 4194304 := by rw [← HL5.out]; exact hp8.short
            have HSa := Lib.hid (same_yes (some ⟨g7, 0, none⟩) A3 L5 L5 c3 (fun j => os.getD j 0) w8.heap.size w8 (by omega) (lies_wds hl9 HL5.out hp8.holds.small) hwds)
            clear hown hup hb9 hp7 hX7 hl8 hB7 hwds hlen5 HRw
            go_wp2_with fail
            refine HSa.out.mono ?_
            rintro e w9 ⟨rfl, hb10⟩
            have hp9 := hp8.below hb10 hp8.pk.head.lt hp8.pk.body.lt
            have hX9 := hX8.below hb10 hX8.lt
            have hl10 := hl9.below hb10 hl9.lt
            have hB9 : Below w.heap.size w w9 := hB8.trans (hb10.mono hB8.size)
            clear hb10 hp8 hX8 hl9 hB8 HSa
            go_wp2_with fail
            go_loopw [114] (fun v wq => ∃ (j : Nat) (cs : List Nat), j ≤ L5 ∧ v = .int .i64 (j : Int) ∧ cs.length = L5 ∧ Lies wq g7 30 (wcells cs) ∧ Full wq g gs k n os (fun j => ys.getD j 0) ∧ Lies wq gx 30 (wcells ys) ∧ Below w.heap.size w wq) (fun v _ => L5 - (intOf v).toNat)
            case atStart => exact ⟨0, os, Nat.zero_le _, rfl, HL5.out, hl10, hp9, hX9, hB9⟩
            case round =>
              clear hp9 hX9 hl10 hB9
              obtain ⟨j, cs, hj, rfl, hcl, hl, hpq, hXq, hBq⟩ := hrel
              by_cases hjl : j < L5
              · have hcell := (hl.cell j).trans (wcells_at cs j (by omega))
                have hfz := hl.free j
                have HCl := Lib.hid hcl
                clear hcl
                go_wp2_with fail
                go_roundw
                case rel =>
                  refine ⟨j + 1, cs.set j 77, by omega, by go_num, by rw [List.length_set]; exact HCl.out, by rw [wcells_set]; exact hl.put j _, hpq.far ?_ ?_ _, hXq.far ?_ _, hBq.setCell hgw7 _⟩
                  · show g ≠ g7
                    omega
                  · show gs ≠ g7
                    omega
                  · show gx ≠ g7
                    omega
                case measure => simp [intOf]; omega
              · clear hl hcl
                go_wp2_with fail
                obtain ⟨wo, rfl⟩ : ∃ wo : World, wo = wr := ⟨_, rfl⟩
                go_loop [15, 16] (fun u _ => ∃ kk : Nat, kk ≤ n + 2 ∧ u = .int .i64 ((kk : Int) - 1)) (fun u _ => n + 2 - (intOf u + 1).toNat)
                case atStart => exact ⟨0, by omega, rfl⟩
                case round =>
                  obtain ⟨kk, hkk, rfl⟩ := hrel
                  rcases kk with _ | j
                  · have e0 : ((0 : Nat) : Int) - 1 = -1 := rfl
                    rw [e0]
                    have G := Lib.hid (hpq.getOut (-1) (by omega))
                    clear e0
                    go_wp2_with fail
                    refine G.out.mono ?_
                    rintro e w' ⟨rfl, rfl⟩
                    go_wp2_with fail
                    go_round
                    case rel => exact ⟨1, by omega, by go_num⟩
                    case measure => simp [intOf]
                  · have e1 : ((j + 1 : Nat) : Int) - 1 = (j : Int) := by omega
                    rw [e1]
                    clear e1
                    by_cases hjn : j < n
                    · have hcx := (hXq.cell j).trans (wcells_at ys j (by rw [HYl.out]; exact hjn))
                      obtain ⟨y, hy⟩ : ∃ y, ys.getD j 0 = y := ⟨_, rfl⟩
                      have g0 := hpq.get j hjn
                      rw [hy] at hcx g0
                      have G := Lib.hid g0
                      clear hy g0
                      go_wp2_with fail
                      refine G.out.mono ?_
                      rintro e w' ⟨rfl, rfl⟩
                      go_wp2_with fail
                      go_round
                      case rel => exact ⟨j + 2, by omega, by go_num⟩
                      case measure => simp only [intOf]; omega
                    · by_cases hjn2 : j = n
                      · subst hjn2
                        have G := Lib.hid (hpq.getOut (j : Int) (by omega))
                        go_wp2_with fail
                        refine G.out.mono ?_
                        rintro e w' ⟨rfl, rfl⟩
                        go_wp2_with fail
                        go_round
                        case rel => exact ⟨j + 2, by omega, by go_num⟩
                        case measure => simp only [intOf]; omega
                      · have hjn3 : n + 1 ≤ j := by omega
                        clear hjn hjn2
                        go_wp2_with fail
                        go_roundg (gk - 1)
                        case measure => omega
                        case rel => exact ⟨i + 1, os, ys, by omega, by go_num, HYl.out, hys, hpq, hXq, hBq⟩
      · go_wp2_with fail
        go_ret
        exact ⟨rfl, hB1⟩
    · go_wp2_with fail
      go_ret
      exact ⟨rfl, hB⟩

theorem walk (a b : Int) (A : Option Addr) (L c : Nat) (I : Nat → Int) (V : Nat → Nat) (w : World) (ho : Ops w w.heap.size A L I V) :
    Calls Try.prog 3 #[.int .i64 a, .int .i64 b, .slice A L c] w fun e w' => e = .returned (.bool true) ∧ Below w.heap.size w w' := by
  cases hr : rightB a b with
  | false => exact walk_bad a b A L c w hr
  | true =>
    unfold rightB at hr
    simp only [decide_eq_true_eq] at hr
    obtain ⟨k, rfl⟩ : ∃ k : Nat, a = (k : Int) := ⟨a.toNat, by omega⟩
    obtain ⟨n, rfl⟩ : ∃ n : Nat, b = (n : Int) := ⟨b.toNat, by omega⟩
    by_cases hn : n ≤ 500
    · exact walk_few k n A L c I V w (by omega) (by omega) hn ho
    · exact walk_many k n A L c w (by omega) (by omega) (by omega) (by omega)

theorem own : ownKnob Try.prog.godebug = none := by kernel_rfl
theorem laidOut : laidOutB Try.prog = true := by kernel_rfl

set_option maxRecDepth 100000 in
theorem lifted (os : Os) (started : os.Started) (H : Type) (enc : TypeId × Value → H) :
    ReturnsInHanded {} Try.checked os 3 .any (Rows.packPlaysSpec.pre6 enc Try.prog Try.f3 Rows.packPlaysRow.domain false) (Rows.packPlaysSpec.post enc Try.prog Try.f3 false true false false) := by
  refine returnsInHanded_of_change (C := Try.checked) own started (by kernel_rfl) Try.func3
    (ChangeSpec.witness6 (enc := enc) (C := Try.checked) false ⟨#[], #[.int .i64 0, .int .i64 0, .slice none 0 0], []⟩ 8 (by kernel_rfl) (by kernel_rfl) (by kernel_rfl) (by kernel_rfl)) ?_
  intro W base args ds gs before hval0 hW hcnd _
  have hval : ∀ (j : Nat) t v, Try.f3.params[j]? = some t → args[j]? = some v → Value.okWide Try.prog W .any base t v := hval0
  have hW' := hW
  obtain ⟨p, q, hA0, hV, rfl, hfz, hnd⟩ := hW
  have hA : DataW.TrodAll enc Try.prog W 0 (fun _ => true) true Try.f3.params.toList args.toList ds p := hA0
  rw [Try.params3] at hA hval
  obtain ⟨v0, v1, v2, d0, d1, d2, p0, p1, p2, rfl, rfl, rfl, h0, h1, h2⟩ := trodAll_three hA
  obtain ⟨rfl, rfl⟩ := trodVars_none hV
  obtain ⟨a, rfl, rfl, rfl, wa⟩ := open_int Try.underlying3 (hval 0 3 v0 rfl rfl) h0
  obtain ⟨b, rfl, rfl, rfl, wb⟩ := open_int Try.underlying3 (hval 1 3 v1 rfl rfl) h1
  obtain ⟨A, n, c, I, V, rfl, hn, ho⟩ := open_ops (hval 2 22 v2 rfl rfl) h2
  clear hA0 hval0
  refine (walk a b A n c I V W ho).mono fun e W' ⟨he, hg⟩ => ?_
  subst he
  exact ⟨_, rfl, law_post laidOut rfl rfl rfl (by rw [Try.params3]; decide +kernel) hW' hg⟩

/-- The statement. -/
theorem proved : Rows.PackPlaysSaid :=
  OpenClaim.holds_of_wide 3 Try.f3 rfl rfl rfl rfl rfl rfl rfl ⟨rfl, rfl, rfl, rfl, rfl⟩ rfl rfl rfl rfl rfl (by kernel_rfl) Try.func3 (by kernel_rfl)
    (of_decide_eq_true (by kernel_rfl)) (by unfold Func.isWrapper; first | (rw [if_pos (by decide +kernel)]; kernel_rfl) | (rw [if_neg (by decide +kernel)]; exact ⟨rfl, rfl⟩))
    (fun os started H enc _ => lifted os started H enc)
#print axioms proved
end Go.Proofs.Ytlpoingajmogkaa.packPlays
