/- The walk of colophonlaw08.TextMakes, over what package text answers (TextI). -/
import Derived.Test.YtkhkjbhhkclnlaaTxtPlaces
import Derived.Test.YtkhkjbhhkclnlaaTxtParts
import Derived.Test.YtkhkjbhhkclnlaaRange
import Derived.Test.YtkhkjbhhkclnlaaRegionG
import Derived.RegionTactic
import Derived.Deep.RegionHeld3
namespace Go.Proofs.Ytkhkjbhhkclnlaa
open Go.RowKit

/-- a fact: no bytes. -/
def Emp : Value → World → Prop := fun v _ => ∃ (A : Option Addr) (c : Nat), v = .slice A 0 c
/-- a fact: these bytes. -/
def Cvs (z : Nat) (V : Nat → Nat) : Value → World → Prop := fun v w => ∃ (Y : Option Addr) (cy : Nat), v = .slice Y z cy ∧ Bys w w.heap.size Y z V
theorem Cvs.mono {z : Nat} {V : Nat → Nat} {v : Value} {w w' : World} (h : Cvs z V v w) (hb : Below w.heap.size w w') : Cvs z V v w' := by
  obtain ⟨Y, cy, e, h1⟩ := h
  exact ⟨Y, cy, e, (h1.below hb).mono_ hb.size⟩
/-- what the operations of the law's last return leave, for the number of documents, and for a document. -/
def psiEnd (P : Option Addr) (a : Addr) (j c oj : Nat) : Nat → Value → World → Prop
  | 0 => Is (.pointer (some a))
  | 1 => Is (.int .i64 (j : Int))
  | 2 => Is (.int .i64 (oj : Int))
  | 3 => Is (.int .i64 (oj : Int))
  | 4 => Is (.bool true)
  | 5 => Is (.bool true)
  | 6 => Is (.int .i64 (j : Int))
  | 7 => Is (.slice P j c)
  | 8 => Is (.int .i64 (j : Int))
  | 9 => Is (.bool true)
  | 10 => Is (.bool true)
  | 11 => Is (.pointer (some a))
  | 12 => Is (.int .i64 (j : Int))
  | 13 => Emp
  | 14 => Is (.int .i64 0)
  | 15 => Is (.bool true)
  | 16 => Is (.bool true)
  | 17 => Is (.bool true)
  | 18 => Is (undef)
  | 19 => Is (undef)
  | 20 => Is (undef)
  | 21 => Is (undef)
  | 22 => Is (undef)
  | 23 => Is (undef)
  | 24 => Is (undef)
  | 25 => Is (undef)
  | 26 => Is (undef)
  | 27 => Is (undef)
  | 28 => Is (undef)
  | 29 => Is (undef)
  | 30 => Is (undef)
  | 31 => Is (undef)
  | 32 => Is (undef)
  | 33 => Is (undef)
  | 34 => Is (.bool true)
  | 35 => Is (.bool true)
  | 36 => Is (.bool true)
  | _ => fun _ _ => True
def psiIn (ad : Addr) (A : Option Addr) (a : Addr) (j q c oj z cc : Nat) (V : Nat → Nat) : Nat → Value → World → Prop
  | 0 => Is (.pointer (some a))
  | 1 => Is (.int .i64 (j : Int))
  | 2 => Is (.int .i64 (oj : Int))
  | 3 => Is (.int .i64 (oj : Int))
  | 4 => Is (.bool true)
  | 5 => Is (.bool true)
  | 6 => Is (.int .i64 (j : Int))
  | 7 => Is (.slice (some ad) q c)
  | 8 => Is (.int .i64 (q : Int))
  | 9 => Is (.bool false)
  | 10 => Is (.bool false)
  | 11 => Is (undef)
  | 12 => Is (undef)
  | 13 => Is (undef)
  | 14 => Is (undef)
  | 15 => Is (undef)
  | 16 => Is (.bool false)
  | 17 => Is (.bool false)
  | 18 => Is (.int .i64 (j : Int))
  | 19 => Is (.slice (some ad) q c)
  | 20 => Is (.int .i64 (q : Int))
  | 21 => Is (.bool true)
  | 22 => Is (.bool true)
  | 23 => Is (.pointer (some a))
  | 24 => Is (.int .i64 (j : Int))
  | 25 => Cvs z V
  | 26 => Is (.string (bstr V z))
  | 27 => Is (.slice (some ad) q c)
  | 28 => Is (.int .i64 (j : Int))
  | 29 => Is (.pointer (some (ad.add j)))
  | 30 => Is (.slice A z cc)
  | 31 => Is (.string (bstr V z))
  | 32 => Is (.bool true)
  | 33 => Is (.bool true)
  | 34 => Is (.bool true)
  | 35 => Is (.bool true)
  | 36 => Is (.bool true)
  | _ => fun _ _ => True
theorem psiEnd_mono {P : Option Addr} {a : Addr} {j c oj : Nat} (i : Nat) (v : Value) (w w' : World) (h : psiEnd P a j c oj i v w) (_hb : Below w.heap.size w w') : psiEnd P a j c oj i v w' := by
  unfold psiEnd at h ⊢
  split at h <;> exact h
theorem psiIn_mono {ad : Addr} {A : Option Addr} {a : Addr} {j q c oj z cc : Nat} {V : Nat → Nat} (i : Nat) (v : Value) (w w' : World) (h : psiIn ad A a j q c oj z cc V i v w) (hb : Below w.heap.size w w') : psiIn ad A a j q c oj z cc V i v w' := by
  unfold psiIn at h ⊢
  split at h <;> first | exact h | exact Cvs.mono h hb

section
variable {At : Nat → World → Value → List Sec → Prop}
set_option maxRecDepth 100000 in
set_option maxHeartbeats 6400000 in
theorem txtMakes_walk (I : TextI At) (P : Option Addr) (c : Nat) (L : List Part) (p0 d0 : Int) (w : World) (hl : L.length ≤ c) (hcm : c ≤ maxLen) (ho : Secs w w.heap.size P L) (hL : L.length * 24 ≤ 140737488351232) (hp0 : (Lit.int .i64 p0).wf = true) (hd0 : (Lit.int .i64 d0).wf = true) :
    Calls Try.prog 3 #[.slice P L.length c, .int .i64 p0, .int .i64 d0] w fun e w' => e = .returned (.bool true) ∧ Below w.heap.size w w' := by
  have HI := Lib.hid I
  have HO := Lib.hid ho
  have HF := Lib.hid (tfirst_any I w)
  have HRg : Hid (∀ W, Below w.heap.size w W → Hid (Calls Try.prog 9 #[.slice P L.length c] W fun e w' => e = .returned (.bool (decide (L.length ≤ 256 ∧ bytesT (docsP L) ≤ 65536))) ∧ W = w')) := Lib.hid fun W hW => Lib.hid (refRight_any P c L w.heap.size W (by omega) (ho.below hW))
  obtain ⟨k, hk⟩ : ∃ k, L.length = k := ⟨_, rfl⟩
  rw [hk] at HRg hL ⊢
  have HK := Lib.hid hk
  clear I ho hl hcm hk
  go_enter Try.func3, Try.ntmps3
  go_wp2_with fail
  refine HF.out.mono ?_
  rintro e w0 ⟨rfl, hb0⟩
  clear HF
  go_wp2_with fail
  go_loopw [7, 25] (fun s7 v wr => ∃ (i : Nat) (Lp : List Part), i ≤ k ∧ v = .int .i64 (i : Int) ∧ Hid (Lp.length = i) ∧ Hid (wr.ownsRow w.heap.size 24 1 s7 i (pcells Lp)) ∧ Hid (∀ (q : Nat) (p' : Part), Lp[q]? = some p' → AnyPart wr w.heap.size p') ∧
    Hid (∀ (q : Nat) (p' p : Part), Lp[q]? = some p' → L[q]? = some p → p'.n = p.n ∧ p'.V = p.V) ∧ Hid (∀ (q : Nat) (p' : Part), Lp[q]? = some p' → q < 300 → p'.n ≤ 70000 → OwnPart wr w.heap.size p') ∧ Below w.heap.size w wr) (fun _ v _ => k - (intOf v).toNat)
  case atStart => exact ⟨0, [], Nat.zero_le _, rfl, Lib.hid rfl, Lib.hid (World.ownsRow_nil w0 _ _ _), Lib.hid (fun q p' h => by simp at h), Lib.hid (fun q p' p h => by simp at h), Lib.hid (fun q p' h => by simp at h), hb0⟩
  case round =>
    obtain ⟨i, Lp, hi, rfl, hlen, hrow, hparts, hsame, howns, hb⟩ := hrel
    have hbs := hb.size
    by_cases hlt : i < k
    · have hlti : (i : Int) < (k : Int) := by omega
      obtain ⟨pt, hpt⟩ : ∃ p, L[i]? = some p := ⟨_, List.getElem?_eq_getElem (by rw [HK.out]; exact hlt)⟩
      obtain ⟨ad, rfl, hadb, hc, hnc, hcm, hAn, hby⟩ := (HO.out.below hb) i pt hpt
      have HPt := Lib.hid hpt
      have hpm : pt.c ≤ 9223372036854775807 := by unfold maxLen at hcm; omega
      have HCm := Lib.hid hcm
      have HAn := Lib.hid hAn
      have HBy := Lib.hid hby
      clear hpt hcm hAn hby
      obtain ⟨A, z, cc, V⟩ := pt
      by_cases hcopy : i < 300 ∧ z ≤ 70000
      · have hd1 : decide ((i : Int) < 300) = true := by simp; omega
        have hd2 : decide ((z : Int) ≤ 70000) = true := by simp; omega
        have hown0 : (wr.alloc (.cells #[] 5)).ownsRow wr.heap.size 5 1 (.slice (some ⟨wr.heap.size, 0, none⟩) 0 0) 0 [] := World.ownsRow_lit wr #[] 0 (Nat.le_refl _) (Nat.zero_le _) rfl
        have hba : Below wr.heap.size wr (wr.alloc (.cells #[] 5)) := (Below.refl _ _).alloc (Nat.le_refl _) _
        have HBa : Hid (Bys (wr.alloc (.cells #[] 5)) w.heap.size A z V) := Lib.hid (HBy.out.below (hba.mono hbs))
        have hbas := hba.size
        have HOwn0 := Lib.hid hown0
        have hrow0 : Hid ((wr.alloc (.cells #[] 5)).ownsRow w.heap.size 24 1 u7 i (pcells Lp)) := Lib.hid (ownsRow_keep hrow.out hba)
        clear hown0
        go_wp2_with (first
          | (at_builtin; refine step_append_bytes rfl (.tmp 38) (.tmp 39) rfl rfl HOwn0.out rfl HAn.out HBa.out hbas (by omega) ?_; intro v3 w3 hown3 hb3; rw [List.nil_append, Nat.zero_add] at hown3; obtain ⟨Z, cz, rfl, hZc, hZA, hpart⟩ := own_cut hown3.out (Nat.le_refl _) (fun j hj => (HBy.out j hj).elim fun _ h => h.2.2.2); have hb3' := hba.trans hb3; have hrow3 := Lib.hid (ownsRow_keep hrow.out hb3'); have hs3 : w.heap.size ≤ w3.heap.size := Nat.le_trans hbs hb3'.size; have HPart := Lib.hid hpart; clear hown3 hpart hb3)
          | (at_builtin; refine step_append_doc rfl (.tmp 37) (.tmp 41) rfl rfl hrow3.out Z z cz rfl hs3 (by omega) ?_; intro v6 w6 hown6 hgr6 hb6))
        rw [← pcells_snoc Lp ⟨Z, z, cz, V⟩] at hown6
        go_roundw
        case rel =>
          refine ⟨i + 1, Lp ++ [⟨Z, z, cz, V⟩], by omega, by go_num, Lib.hid (by rw [List.length_append, hlen.out]; rfl), hown6, Lib.hid (fun q p' hq => ?_), Lib.hid (fun q p' p hq hp => ?_), Lib.hid (fun q p' hq h3 h7 => ?_), hb.trans (hb3'.mono hbs |>.trans hb6)⟩
          · rcases snoc_at hlen.out hq with ⟨h1, h2⟩ | ⟨rfl, rfl⟩
            · exact (((hparts.out q p' h2).below hbs hb3').grown hrow3.out hgr6.out)
            · exact .inl ((HPart.out.lower hbs).grown hrow3.out hgr6.out)
          · rcases snoc_at hlen.out hq with ⟨h1, h2⟩ | ⟨rfl, rfl⟩
            · exact hsame.out q p' p h2 hp
            · rw [HPt.out] at hp
              cases hp
              exact ⟨rfl, rfl⟩
          · rcases snoc_at hlen.out hq with ⟨h1, h2⟩ | ⟨rfl, rfl⟩
            · exact ((howns.out q p' h2 h3 h7).below hb3').grown hrow3.out hgr6.out
            · exact (HPart.out.lower hbs).grown hrow3.out hgr6.out
        case measure => simp [intOf]; omega
      · have hd1 : decide ((i : Int) < 300) = false ∨ (decide ((i : Int) < 300) = true ∧ decide ((z : Int) ≤ 70000) = false) := by
          by_cases h3 : i < 300
          · exact .inr ⟨by simp; omega, by simp; omega⟩
          · exact .inl (by simp; omega)
        have HAl : Hid (AnyPart wr w.heap.size ⟨A, z, cc, V⟩) := Lib.hid (.inr ⟨hnc, HCm.out, HAn.out, HBy.out⟩)
        rcases hd1 with hd1 | ⟨hd1, hd2⟩
        all_goals
          go_wp2_with (at_builtin; refine step_append_doc rfl (.tmp 43) (.tmp 45) rfl rfl hrow.out A z cc rfl hbs (by omega) ?_; intro v6 w6 hown6 hgr6 hb6)
          rw [← pcells_snoc Lp ⟨A, z, cc, V⟩] at hown6
          go_roundw
          case rel =>
            refine ⟨i + 1, Lp ++ [⟨A, z, cc, V⟩], by omega, by go_num, Lib.hid (by rw [List.length_append, hlen.out]; rfl), hown6, Lib.hid (fun q p' hq => ?_), Lib.hid (fun q p' p hq hp => ?_), Lib.hid (fun q p' hq h3 h7 => ?_), hb.trans hb6⟩
            · rcases snoc_at hlen.out hq with ⟨h1, h2⟩ | ⟨rfl, rfl⟩
              · exact (hparts.out q p' h2).grown hrow.out hgr6.out
              · exact HAl.out.grown hrow.out hgr6.out
            · rcases snoc_at hlen.out hq with ⟨h1, h2⟩ | ⟨rfl, rfl⟩
              · exact hsame.out q p' p h2 hp
              · rw [HPt.out] at hp
                cases hp
                exact ⟨rfl, rfl⟩
            · rcases snoc_at hlen.out hq with ⟨h1, h2⟩ | ⟨rfl, rfl⟩
              · exact (howns.out q p' h2 h3 h7).grown hrow.out hgr6.out
              · exact absurd ⟨h3, h7⟩ hcopy
          case measure => simp [intOf]; omega
    · obtain rfl : i = k := by omega
      have hdocs : docsP Lp = docsP L := by
        apply List.ext_getElem?
        intro q
        by_cases hq : q < i
        · obtain ⟨p', hp'⟩ : ∃ p, Lp[q]? = some p := ⟨_, List.getElem?_eq_getElem (by rw [hlen.out]; exact hq)⟩
          obtain ⟨p, hp⟩ : ∃ p, L[q]? = some p := ⟨_, List.getElem?_eq_getElem (by rw [HK.out]; exact hq)⟩
          rw [docsP_at hp', docsP_at hp]
          obtain ⟨h1, h2⟩ := hsame.out q p' p hp' hp
          unfold Part.sec
          rw [h1, h2]
        · rw [List.getElem?_eq_none (by rw [docsP_length, hlen.out]; omega), List.getElem?_eq_none (by rw [docsP_length, HK.out]; omega)]
      obtain ⟨X, cx, rfl, hXc, hXm, hXA, hXs, hXb⟩ := row_any hrow.out hlen.out hbs hparts.out
      have HN := Lib.hid (HI.out.new X cx Lp wr hXc hXm hXA hXs)
      rw [hlen.out, hdocs] at HN
      obtain ⟨S, hS⟩ : ∃ S, docsP L = S := ⟨_, rfl⟩
      have hSk : S.length = i := by rw [← hS, docsP_length, HK.out]
      have H2 := Lib.hid (fun W hW => (HRg.out W hW))
      rw [hS] at HN H2
      have HS := Lib.hid hS
      have HSk := Lib.hid hSk
      have HXs := Lib.hid hXs
      have HXb := Lib.hid hXb
      have HRow := hrow
      rw [hlen.out] at HRow ⊢
      have HDc := Lib.hid hdocs
      clear hdocs hXc hXm hXA hXs hXb hS hSk hrow HRg hsame
      go_wp2_with fail
      refine HN.out.mono ?_
      rintro e w2 ⟨h1, h2, hb2⟩
      have hB2 := hb.trans (hb2.mono hbs)
      have H3 := H2.out w2 hB2
      by_cases hr : i ≤ 256 ∧ bytesT S ≤ 65536
      · rw [decide_eq_true hr] at H3
        obtain ⟨v, rfl, hAt⟩ := h1 ⟨by rw [HSk.out]; exact hr.1, hr.2⟩
        obtain ⟨aa, rfl⟩ := HI.out.ptr hAt
        have hV := (HI.out.right hAt).2
        have HV := Lib.hid hV
        obtain ⟨lo, hlo⟩ : ∃ lo, w.heap.size = lo := ⟨_, rfl⟩
        obtain ⟨hi0, hhi⟩ : ∃ hi0, wr.heap.size = hi0 := ⟨_, rfl⟩
        rw [hhi] at hAt
        have HAt := Lib.hid hAt
        have HBy : Hid (∀ (q : Nat) (p' : Part), Lp[q]? = some p' → ByB w2 lo hi0 p') := Lib.hid fun q p' hq => by
          have hql := (List.getElem?_eq_some_iff.1 hq).1
          rw [hlen.out] at hql
          have hS' : (docsP Lp)[q]? = some p'.sec := docsP_at hq
          have hn : p'.n ≤ 65536 := by
            have h1 := bytesT_mem (List.mem_of_getElem? hS')
            rw [HDc.out, HS.out] at h1
            have h1 : p'.n ≤ bytesT S := h1
            omega
          have h2 := (howns.out q p' hq (by omega) (by omega)).byb
          rw [hlo, hhi] at h2
          exact h2.keep (by rw [← hhi]; exact hb2)
        have HXc : Hid (∀ (q : Nat) (p' : Part), Lp[q]? = some p' → ∃ ad : Addr, X = some ad ∧ w2.cell? (ad.add q) = some (.slice p'.A p'.n p'.c) ∧ p'.n ≤ p'.c ∧ p'.c ≤ maxLen ∧ ad.block < w2.heap.size) := Lib.hid fun q p' hq => by
          obtain ⟨ad, e1, e2, e3, e4, e5, _⟩ := (HXs.out.below hb2) q p' hq
          exact ⟨ad, e1, e3, e4, e5, Nat.lt_of_lt_of_le e2 hb2.size⟩
        have HXt : Hid (∀ ad, X = some ad → ∃ cur, w2.heap[ad.block]? = some (.cells cur 24 (0, 0))) := Lib.hid fun ad e => by
          obtain ⟨g, cur, e1, _, e3⟩ := HXb.out ad e
          subst e1
          exact ⟨cur, (hb2.block g (Array.getElem?_eq_some_iff.1 e3).1).trans e3⟩
        have hi256 := hr.1
        have hlenS : lenT S ≤ 65792 := by rw [lenT_is, HSk.out]; omega
        have hlohi : lo ≤ hi0 := by omega
        have hhi2 : hi0 ≤ w2.heap.size := by rw [← hhi]; exact hb2.size
        rw [hlo] at hB2
        clear h1 h2 HN hAt hV HXs HXb HRow howns hparts hb2 hb hbs
        go_wp2_with fail
        refine H3.out.mono ?_
        rintro e w' ⟨rfl, rfl⟩
        clear H3
        go_wp2_with fail
        rename World => w2
        go_loopw [64] (fun v wy => ∃ q : Nat, q ≤ i ∧ v = .int .i64 (q : Int) ∧ Hid (∀ (q : Nat) (p' : Part), Lp[q]? = some p' → ByB wy lo hi0 p') ∧ Off (fun j => j < lo ∨ hi0 ≤ j ∨ ∃ ad : Addr, X = some ad ∧ j = ad.block) w2 wy) (fun v _ => i - (intOf v).toNat)
        case atStart => exact ⟨0, Nat.zero_le _, rfl, HBy, Off.refl _ _⟩
        case round =>
          rename World => wy
          obtain ⟨q, hq, rfl, hby, hoff⟩ := hrel
          by_cases hql : q < i
          · have hqi : (q : Int) < (i : Int) := by omega
            obtain ⟨p', hp'⟩ : ∃ p, Lp[q]? = some p := ⟨_, List.getElem?_eq_getElem (by rw [hlen.out]; exact hql)⟩
            obtain ⟨adX, rfl, hxc, hnc, hcm, hxl⟩ := HXc.out q p' hp'
            have hxc1 : wy.cell? (adX.add q) = some (.slice p'.A p'.n p'.c) := hoff.cell hxc (.inr (.inr ⟨adX, rfl, add_block _ _⟩))
            have HPp := Lib.hid hp'
            have hnc8 : p'.c ≤ 9223372036854775807 := by unfold maxLen at hcm; omega
            clear hp' hcm
            obtain ⟨A', z, cc, V'⟩ := p'
            have HXq : Hid (w2.cell? (adX.add q) = some (.slice A' z cc)) := Lib.hid hxc
            have hzc : z ≤ cc := hnc
            clear hxc hnc
            go_wp2_with fail
            rename World => wy0
            go_loopw [72] (fun v wz => ∃ j : Nat, j ≤ z ∧ v = .int .i64 (j : Int) ∧ Hid (∀ (q : Nat) (p' : Part), Lp[q]? = some p' → ByB wz lo hi0 p') ∧ Off (fun j => j < lo ∨ hi0 ≤ j ∨ ∃ ad : Addr, (some adX : Option Addr) = some ad ∧ j = ad.block) w2 wz) (fun v _ => z - (intOf v).toNat)
            case atStart => exact ⟨0, Nat.zero_le _, rfl, hby, hoff⟩
            case round =>
              rename World => wz
              obtain ⟨j, hj, rfl, hbz, hofz⟩ := hrel
              by_cases hjl : j < z
              · have hjz : (j : Int) < (z : Int) := by omega
                rcases hbz.out q _ HPp.out with h0 | ⟨g, cs, hA', hg1, hg2, hgl, hgc⟩
                · have h0 : z = 0 := h0
                  omega
                · have hA' : A' = some ⟨g, 0, none⟩ := hA'
                  subst hA'
                  obtain ⟨y, hy, hcy⟩ := hgc j hjl
                  have hxc2 : wz.cell? (adX.add q) = some (.slice (some ⟨g, 0, none⟩) z cc) := hofz.cell HXq.out (.inr (.inr ⟨adX, rfl, add_block _ _⟩))
                  have hcell : wz.cell? ⟨g, j, none⟩ = some (.int .u8 (y : Int)) := (hgl.cell j).trans hcy
                  have hfree := hgl.free j
                  have hx8 : bits .xor .u8 (y : Int) 255 = ((y ^^^ 255 : Nat) : Int) := u8_xor_nat y 255 hy (by decide)
                  have hyx : y ^^^ 255 < 256 := by
                    have : y ^^^ 255 < 2 ^ 8 := Nat.xor_lt_two_pow hy (by decide)
                    exact this
                  have HB2 : Hid (∀ (q : Nat) (p' : Part), Lp[q]? = some p' → ByB (wz.setCell ⟨g, j, none⟩ (.int .u8 ((y ^^^ 255 : Nat) : Int))) lo hi0 p') := Lib.hid fun q p' hq => (hbz.out q p' hq).store g j _ hyx
                  have hof2 : Off (fun j => j < lo ∨ hi0 ≤ j ∨ ∃ ad : Addr, (some adX : Option Addr) = some ad ∧ j = ad.block) w2 (wz.setCell ⟨g, j, none⟩ (.int .u8 ((y ^^^ 255 : Nat) : Int))) := hofz.trans (Off.setCell (fun h => by
                    have h : g < lo ∨ hi0 ≤ g ∨ ∃ ad : Addr, (some adX : Option Addr) = some ad ∧ g = ad.block := h
                    rcases h with h | h | ⟨ad, e, h⟩
                    · omega
                    · omega
                    · cases e
                      obtain ⟨cur, hcur⟩ := HXt.out adX rfl
                      have h2 := (hofz.block adX.block hxl (.inr (.inr ⟨adX, rfl, rfl⟩))).trans hcur
                      rw [← h] at h2
                      unfold Lies at hgl
                      rw [hgl] at h2
                      simp at h2) _)
                  clear hyx hgl hgc
                  go_wp2_with fail
                  go_roundw
                  case rel => exact ⟨j + 1, by omega, by go_num, HB2, hof2⟩
                  case measure => simp [intOf]; omega
              · obtain rfl : j = z := by omega
                go_wp2_with fail
                go_roundw
                case rel => exact ⟨q + 1, by omega, by go_num, hbz, hofz⟩
                case measure => simp [intOf]; omega
          · obtain rfl : q = i := by omega
            have hlw2 : lo ≤ w2.heap.size := by omega
            have hBq : Below lo w wy := hB2.trans (Off.below hoff hlw2 (fun j hj => .inl hj))
            have HAq := Lib.hid (HI.out.keep_ HAt.out hoff.size (fun j h1 h2 => hoff.block j h2 (.inr (.inl h1))))
            have hBw : Below w.heap.size w wy := by rw [hlo]; exact hBq
            have HY := Lib.hid (refSymbols_any P c L wy (by rw [HK.out]; omega) (by rw [HS.out]; omega) ((HO.out.below hBw).mono_ hBw.size))
            rw [HK.out, HS.out] at HY
            obtain ⟨N, hN⟩ : ∃ N, lenT S = N := ⟨_, rfl⟩
            rw [hN] at HY hlenS
            have HN := Lib.hid hN
            have HSym : Hid (∀ j, j < N → -9223372036854775808 ≤ symI S j ∧ symI S j ≤ 9223372036854775807) := Lib.hid fun j hj => by
              have h := sym_lt HV.out (p := j) (by rw [hN]; exact hj)
              rw [HSk.out] at h
              unfold symI
              omega
            clear hby hoff HBy HXc HXt HAt hlen hBq hB2 hN hlo
            go_wp2_with fail
            refine HY.out.mono ?_
            rintro e w3 ⟨u1, rfl, hu1, hb3⟩
            have hB3 := hBw.trans (hb3.mono hBw.size)
            have HA3 := Lib.hid (HI.out.keep HAq.out hb3)
            obtain ⟨X1, c1, rfl, hX1⟩ := Its.of_own hu1 HSym.out
            have HX1 := Lib.hid hX1
            have H4 := Lib.hid (HI.out.docs _ _ S w3 HA3.out)
            rw [HSk.out] at H4
            clear hu1 hX1 HY HAq
            go_wp2_with fail
            refine H4.out.mono ?_
            rintro e w4 ⟨rfl, hb4⟩
            have hB4 := hB3.trans (hb4.mono hB3.size)
            have HA4 := Lib.hid (HI.out.keep HA3.out hb4)
            have h34 := hb4
            have H5 := Lib.hid (HI.out.len_ _ _ S w4 HA4.out)
            rw [HN.out] at H5
            clear H4 hb4 HA3
            go_wp2_with fail
            refine H5.out.mono ?_
            rintro e w5 ⟨rfl, hb5⟩
            have hB5 := hB4.trans (hb5.mono hB4.size)
            have HA5 := Lib.hid (HI.out.keep HA4.out hb5)
            have h35 := h34.trans (hb5.mono h34.size)
            have H6 := Lib.hid (HI.out.alphabet _ _ S w5 HA5.out)
            rw [HSk.out] at H6
            have hw6 : IntKind.i64.wrap ((q : Int) + 256) = ((q + 256 : Nat) : Int) := by rw [IntWalk.i64_in _ (by omega)]; omega
            have hw7 : IntKind.i64.wrap ((q : Int) + 256) = (q : Int) + 256 := by rw [IntWalk.i64_in _ (by omega)]
            clear H5 hb5 HA4 h34
            go_wp2_with fail
            refine H6.out.mono ?_
            rintro e w6 ⟨rfl, hb6⟩
            have hB6 := hB5.trans (hb6.mono hB5.size)
            have HA6 := Lib.hid (HI.out.keep HA5.out hb6)
            have h36 := h35.trans (hb6.mono h35.size)
            have H7 := Lib.hid (HI.out.symbols _ _ S w6 HA6.out)
            clear H6 hb6 HA5 h35
            go_wp2_with fail
            refine H7.out.mono ?_
            rintro e w7 ⟨u2, rfl, hu2, hb7⟩
            have hB7 := hB6.trans (hb7.mono hB6.size)
            have HA7 := Lib.hid (HI.out.keep HA6.out hb7)
            have h37 := h36.trans (hb7.mono h36.size)
            rw [HN.out] at hu2
            obtain ⟨X2, c2, rfl, hX2⟩ := Its.of_own hu2 HSym.out
            have HSm := Lib.hid (refSame8_any X2 X1 N N c2 c1 (symI S) (symI S) w7.heap.size w3.heap.size w7 (by unfold maxLen; omega) (Nat.le_refl _) h37.size hX2 (HX1.out.below h37))
            clear hu2 hX2 H7 hb7 HA6 h36 HX1 hw6 hw7
            go_wp2_with fail
            refine HSm.out.mono ?_
            rintro e w8 ⟨b, rfl, hbi, hb8⟩
            obtain rfl : b = true := hbi.2 ⟨by trivial, fun _ _ => by trivial⟩
            have hB8 := hB7.trans (hb8.mono hB7.size)
            have HA8 := Lib.hid (HI.out.keep HA7.out hb8)
            have H8 := Lib.hid (HI.out.doc _ _ S p0 w8 hp0 HA8.out)
            clear HSm hbi hb8 HA7 h37
            obtain ⟨r, hr0⟩ : ∃ r, docI S p0 = r := ⟨_, rfl⟩
            rw [hr0] at H8
            have HR0 := Lib.hid hr0
            clear hr0
            obtain ⟨r1, r2⟩ := r
            go_wp2_with fail
            refine H8.out.mono ?_
            rintro e w9 ⟨rfl, hb9⟩
            have hB9 := hB8.trans (hb9.mono hB8.size)
            have HA9 := Lib.hid (HI.out.keep HA8.out hb9)
            have H9 := Lib.hid (refDoc_any P c L w.heap.size w9 (by rw [HK.out]; unfold maxLen; omega) (HO.out.below hB9) p0 hp0)
            rw [HK.out, HS.out, HR0.out] at H9
            clear H8 hb9 HA8
            go_wp2_with fail
            refine H9.out.mono ?_
            rintro e w' ⟨rfl, rfl⟩
            clear H9
            have hdb := i64_in hd0
            by_cases hin : 0 ≤ d0 ∧ d0 ≤ (q : Int)
            · have hd1 : decide (d0 < 0) = false := decide_eq_false (by omega)
              have hd2 : decide ((q : Int) < d0) = false := decide_eq_false (by omega)
              obtain ⟨d, rfl⟩ : ∃ d : Nat, d0 = (d : Int) := ⟨d0.toNat, by omega⟩
              have hdq : d ≤ q := by omega
              go_wp2_with fail
              go_loopw [19, 20] (fun s19 s20 wx => ∃ j : Nat, j ≤ d ∧ s19 = .int .i64 ((offT S j : Nat) : Int) ∧ s20 = .int .i64 (j : Int) ∧ w9 = wx) (fun _ s20 _ => d - (intOf s20).toNat)
              case atStart => exact ⟨0, Nat.zero_le _, rfl, rfl, rfl⟩
              case round =>
                obtain ⟨j, hj, rfl, rfl, rfl⟩ := hrel
                by_cases hjd : j < d
                · have hji : (j : Int) < (d : Int) := by omega
                  have hjq : (j : Int) < (q : Int) := by omega
                  obtain ⟨pt, hpt⟩ : ∃ p, L[j]? = some p := ⟨_, List.getElem?_eq_getElem (by rw [HK.out]; omega)⟩
                  obtain ⟨ad, rfl, _, hcell, hnc, hcm⟩ := doc_cell HO.out hB9 hpt
                  have hSx : S[j]? = some pt.sec := by rw [← HS.out]; exact docsP_at hpt
                  have hin := offT_in hSx
                  rw [HN.out] at hin
                  have hin : offT S j + (pt.n + 1) ≤ N := hin
                  have HNx0 := Lib.hid (offT_succ hSx)
                  have hpm : pt.c ≤ 9223372036854775807 := by unfold maxLen at hcm; omega
                  clear hpt hSx hcm
                  obtain ⟨A, z, cc, V⟩ := pt
                  have HNx : Hid (offT S (j + 1) = offT S j + (z + 1)) := HNx0
                  clear HNx0
                  generalize offT S j = oj at hin HNx ⊢
                  have hin : oj + (z + 1) ≤ N := hin
                  have hw1 : IntKind.i64.wrap ((z : Int) + 1) = (z : Int) + 1 := IntWalk.i64_in _ (by omega)
                  have hw2 : IntKind.i64.wrap ((oj : Int) + ((z : Int) + 1)) = ((oj + (z + 1) : Nat) : Int) := by rw [IntWalk.i64_in _ (by omega)]; omega
                  go_wp2_with fail
                  go_roundw
                  case rel => exact ⟨j + 1, by omega, by rw [HNx.out]; go_num, by go_num, by trivial⟩
                  case measure => simp [intOf]; omega
                · obtain rfl : j = d := by omega
                  have hof : ((offT S j : Nat) : Int) = ((offT S j : Nat) : Int) := rfl
                  have HBW : Hid (∀ W, Below w9.heap.size w9 W → Below w.heap.size w W) := Lib.hid fun W hW => hB9.trans (hW.mono hB9.size)
                  have HSt : Hid (∀ W, Below w9.heap.size w9 W → Hid (Calls Try.prog 18 #[.pointer (some aa), .int .i64 (j : Int)] W fun e w' => e = .returned (.int .i64 ((offT S j : Nat) : Int)) ∧ Below W.heap.size W w')) := Lib.hid fun W hW => Lib.hid (by
                    have h := HI.out.start _ _ S (j : Int) W hd0 (HI.out.keep HA9.out hW)
                    rw [startI_at (by rw [HSk.out]; exact hdq)] at h
                    exact h)
                  have hbd := below_drew' (Below.refl w9.heap.size w9)
                  by_cases hjq : j = q
                  · subst hjq
                    have hjq2 : ((j : Int) == (j : Int)) = true := by simp
                    have HBt : Hid (∀ W, Below w9.heap.size w9 W → Hid (Calls Try.prog 19 #[.pointer (some aa), .int .i64 (j : Int)] W fun e w' => (∃ (A : Option Addr) (c : Nat), e = .returned (.slice A 0 c)) ∧ Below W.heap.size W w')) := Lib.hid fun W hW => Lib.hid ((HI.out.bytes _ _ S (j : Int) W hd0 (HI.out.keep HA9.out hW)).mono fun e w' h => ⟨h.2.1 (by rw [HSk.out]; omega), h.2.2⟩)
                    generalize offT S j = oj at HSt ⊢
                    go_wp2_with fail
                    refine region_by_facts (Ψ := psiEnd P aa j c oj) (by kernel_rfl) (by kernel_rfl) (by kernel_rfl) psiEnd_mono ?_ ?_
                    · intro jj hjj a wx hold hB2 hpre
                      have hjn : jj < 37 := hjj
                      have hj' : jj = 0 ∨ jj = 1 ∨ jj = 2 ∨ jj = 3 ∨ jj = 4 ∨ jj = 5 ∨ jj = 6 ∨ jj = 7 ∨ jj = 8 ∨ jj = 9 ∨ jj = 10 ∨ jj = 11 ∨ jj = 12 ∨ jj = 13 ∨ jj = 14 ∨ jj = 15 ∨ jj = 16 ∨ jj = 17 ∨ jj = 18 ∨ jj = 19 ∨ jj = 20 ∨ jj = 21 ∨ jj = 22 ∨ jj = 23 ∨ jj = 24 ∨ jj = 25 ∨ jj = 26 ∨ jj = 27 ∨ jj = 28 ∨ jj = 29 ∨ jj = 30 ∨ jj = 31 ∨ jj = 32 ∨ jj = 33 ∨ jj = 34 ∨ jj = 35 ∨ jj = 36 := by omega
                      clear hjj hjn
                      rcases hj' with rfl | rfl | rfl | rfl | rfl | rfl | rfl | rfl | rfl | rfl | rfl | rfl | rfl | rfl | rfl | rfl | rfl | rfl | rfl | rfl | rfl | rfl | rfl | rfl | rfl | rfl | rfl | rfl | rfl | rfl | rfl | rfl | rfl | rfl | rfl | rfl | rfl
                      · refine wpOp_step rfl (fun K' hK => ?_)
                        have e0 : a.tmps.getD 10 undef = .pointer (some aa) := hold 10 (not_dst (by kernel_rfl))
                        have f0 := e0
                        rw [Array.getD_eq_getD_getElem?] at f0
                        clear hold hpre
                        go_simp
                        exact hK _ _ ⟨171, _, rfl, rfl, Below.refl _ _, rfl⟩
                      · refine wpOp_step rfl (fun K' hK => ?_)
                        have e0 : a.tmps.getD 2 undef = .int .i64 (j : Int) := hold 2 (not_dst (by kernel_rfl))
                        have f0 := e0
                        rw [Array.getD_eq_getD_getElem?] at f0
                        clear hold hpre
                        go_simp
                        exact hK _ _ ⟨172, _, rfl, rfl, Below.refl _ _, rfl⟩
                      · refine wpOp_step rfl (fun K' hK => ?_)
                        have e0 : a.tmps.getD 171 undef = .pointer (some aa) := hpre 0 171 (by kernel_rfl) rfl
                        have f0 := e0
                        rw [Array.getD_eq_getD_getElem?] at f0
                        have e1 : a.tmps.getD 172 undef = .int .i64 (j : Int) := hpre 1 172 (by kernel_rfl) rfl
                        have f1 := e1
                        rw [Array.getD_eq_getD_getElem?] at f1
                        have HC := HSt.out wx hB2
                        clear hold hpre
                        go_simp
                        refine HC.out.mono ?_
                        rintro e w' ⟨rfl, hb'⟩
                        exact hK _ _ ⟨173, _, rfl, rfl, hb', rfl⟩
                      · refine wpOp_step rfl (fun K' hK => ?_)
                        have e0 : a.tmps.getD 19 undef = .int .i64 (oj : Int) := hold 19 (not_dst (by kernel_rfl))
                        have f0 := e0
                        rw [Array.getD_eq_getD_getElem?] at f0
                        clear hold hpre
                        go_simp
                        exact hK _ _ ⟨174, _, rfl, rfl, Below.refl _ _, rfl⟩
                      · refine wpOp_step rfl (fun K' hK => ?_)
                        have e0 : a.tmps.getD 173 undef = .int .i64 (oj : Int) := hpre 2 173 (by kernel_rfl) rfl
                        have f0 := e0
                        rw [Array.getD_eq_getD_getElem?] at f0
                        have e1 : a.tmps.getD 174 undef = .int .i64 (oj : Int) := hpre 3 174 (by kernel_rfl) rfl
                        have f1 := e1
                        rw [Array.getD_eq_getD_getElem?] at f1
                        clear hold hpre
                        go_simp
                        exact hK _ _ ⟨175, _, rfl, rfl, Below.refl _ _, rfl⟩
                      · refine wpOp_step rfl (fun K' hK => ?_)
                        have e0 : a.tmps.getD 175 undef = .bool true := hpre 4 175 (by kernel_rfl) rfl
                        have f0 := e0
                        rw [Array.getD_eq_getD_getElem?] at f0
                        clear hold hpre
                        go_simp
                        exact hK _ _ ⟨176, _, rfl, rfl, Below.refl _ _, rfl⟩
                      · refine wpOp_wanted rfl rfl rfl (hpre 5 176 (by kernel_rfl) rfl) (fun K' hK => ?_)
                        have e0 : a.tmps.getD 2 undef = .int .i64 (j : Int) := hold 2 (not_dst (by kernel_rfl))
                        have f0 := e0
                        rw [Array.getD_eq_getD_getElem?] at f0
                        clear hold hpre
                        go_simp
                        exact hK _ _ ⟨177, _, rfl, rfl, Below.refl _ _, rfl⟩
                      · refine wpOp_wanted rfl rfl rfl (hpre 5 176 (by kernel_rfl) rfl) (fun K' hK => ?_)
                        have e0 : a.tmps.getD 0 undef = .slice P j c := hold 0 (not_dst (by kernel_rfl))
                        have f0 := e0
                        rw [Array.getD_eq_getD_getElem?] at f0
                        clear hold hpre
                        go_simp
                        exact hK _ _ ⟨178, _, rfl, rfl, Below.refl _ _, rfl⟩
                      · refine wpOp_wanted rfl rfl rfl (hpre 5 176 (by kernel_rfl) rfl) (fun K' hK => ?_)
                        have e0 : a.tmps.getD 178 undef = .slice P j c := hpre 7 178 (by kernel_rfl) rfl
                        have f0 := e0
                        rw [Array.getD_eq_getD_getElem?] at f0
                        clear hold hpre
                        go_simp
                        exact hK _ _ ⟨179, _, rfl, rfl, Below.refl _ _, rfl⟩
                      · refine wpOp_wanted rfl rfl rfl (hpre 5 176 (by kernel_rfl) rfl) (fun K' hK => ?_)
                        have e0 : a.tmps.getD 177 undef = .int .i64 (j : Int) := hpre 6 177 (by kernel_rfl) rfl
                        have f0 := e0
                        rw [Array.getD_eq_getD_getElem?] at f0
                        have e1 : a.tmps.getD 179 undef = .int .i64 (j : Int) := hpre 8 179 (by kernel_rfl) rfl
                        have f1 := e1
                        rw [Array.getD_eq_getD_getElem?] at f1
                        clear hold hpre
                        go_simp
                        exact hK _ _ ⟨180, _, rfl, rfl, Below.refl _ _, rfl⟩
                      · refine wpOp_wanted rfl rfl rfl (hpre 5 176 (by kernel_rfl) rfl) (fun K' hK => ?_)
                        have e0 : a.tmps.getD 180 undef = .bool true := hpre 9 180 (by kernel_rfl) rfl
                        have f0 := e0
                        rw [Array.getD_eq_getD_getElem?] at f0
                        clear hold hpre
                        go_simp
                        exact hK _ _ ⟨181, _, rfl, rfl, Below.refl _ _, rfl⟩
                      · refine wpOp_wanted rfl rfl rfl (hpre 10 181 (by kernel_rfl) rfl) (fun K' hK => ?_)
                        have e0 : a.tmps.getD 10 undef = .pointer (some aa) := hold 10 (not_dst (by kernel_rfl))
                        have f0 := e0
                        rw [Array.getD_eq_getD_getElem?] at f0
                        clear hold hpre
                        go_simp
                        exact hK _ _ ⟨182, _, rfl, rfl, Below.refl _ _, rfl⟩
                      · refine wpOp_wanted rfl rfl rfl (hpre 10 181 (by kernel_rfl) rfl) (fun K' hK => ?_)
                        have e0 : a.tmps.getD 2 undef = .int .i64 (j : Int) := hold 2 (not_dst (by kernel_rfl))
                        have f0 := e0
                        rw [Array.getD_eq_getD_getElem?] at f0
                        clear hold hpre
                        go_simp
                        exact hK _ _ ⟨183, _, rfl, rfl, Below.refl _ _, rfl⟩
                      · refine wpOp_wanted rfl rfl rfl (hpre 10 181 (by kernel_rfl) rfl) (fun K' hK => ?_)
                        have e0 : a.tmps.getD 182 undef = .pointer (some aa) := hpre 11 182 (by kernel_rfl) rfl
                        have f0 := e0
                        rw [Array.getD_eq_getD_getElem?] at f0
                        have e1 : a.tmps.getD 183 undef = .int .i64 (j : Int) := hpre 12 183 (by kernel_rfl) rfl
                        have f1 := e1
                        rw [Array.getD_eq_getD_getElem?] at f1
                        have HC := HBt.out wx hB2
                        clear hold hpre
                        go_simp
                        refine HC.out.mono ?_
                        rintro e w' ⟨⟨Y, cy, rfl⟩, hb'⟩
                        exact hK _ _ ⟨184, _, rfl, rfl, hb', ⟨Y, cy, rfl⟩⟩
                      · refine wpOp_wanted rfl rfl rfl (hpre 10 181 (by kernel_rfl) rfl) (fun K' hK => ?_)
                        obtain ⟨Y, cy, e0⟩ : Emp (a.tmps.getD 184 undef) wx := hpre 13 184 (by kernel_rfl) rfl
                        have f0 := e0
                        rw [Array.getD_eq_getD_getElem?] at f0
                        clear hold hpre
                        go_simp
                        exact hK _ _ ⟨185, _, rfl, rfl, Below.refl _ _, rfl⟩
                      · refine wpOp_wanted rfl rfl rfl (hpre 10 181 (by kernel_rfl) rfl) (fun K' hK => ?_)
                        have e0 : a.tmps.getD 185 undef = .int .i64 0 := hpre 14 185 (by kernel_rfl) rfl
                        have f0 := e0
                        rw [Array.getD_eq_getD_getElem?] at f0
                        clear hold hpre
                        go_simp
                        exact hK _ _ ⟨186, _, rfl, rfl, Below.refl _ _, rfl⟩
                      · refine wpOp_wanted rfl rfl rfl (hpre 5 176 (by kernel_rfl) rfl) (fun K' hK => ?_)
                        have e0 : a.tmps.getD 181 undef = .bool true := hpre 10 181 (by kernel_rfl) rfl
                        have f0 := e0
                        rw [Array.getD_eq_getD_getElem?] at f0
                        have e1 : a.tmps.getD 186 undef = .bool true := hpre 15 186 (by kernel_rfl) rfl
                        have f1 := e1
                        rw [Array.getD_eq_getD_getElem?] at f1
                        clear hold hpre
                        go_simp
                        exact hK _ _ ⟨187, _, rfl, rfl, Below.refl _ _, rfl⟩
                      · refine wpOp_wanted rfl rfl rfl (hpre 5 176 (by kernel_rfl) rfl) (fun K' hK => ?_)
                        have e0 : a.tmps.getD 187 undef = .bool true := hpre 16 187 (by kernel_rfl) rfl
                        have f0 := e0
                        rw [Array.getD_eq_getD_getElem?] at f0
                        clear hold hpre
                        go_simp
                        exact hK _ _ ⟨188, _, rfl, rfl, Below.refl _ _, rfl⟩
                      · exact wpOp_passed rfl rfl rfl (hpre 17 188 (by kernel_rfl) rfl) (by simp) ⟨189, _, rfl, rfl, Below.refl _ _, rfl⟩
                      · exact wpOp_passed rfl rfl rfl (hpre 17 188 (by kernel_rfl) rfl) (by simp) ⟨190, _, rfl, rfl, Below.refl _ _, rfl⟩
                      · exact wpOp_passed rfl rfl rfl (hpre 17 188 (by kernel_rfl) rfl) (by simp) ⟨191, _, rfl, rfl, Below.refl _ _, rfl⟩
                      · exact wpOp_passed rfl rfl rfl (hpre 17 188 (by kernel_rfl) rfl) (by simp) ⟨192, _, rfl, rfl, Below.refl _ _, rfl⟩
                      · exact wpOp_passed rfl rfl rfl (hpre 17 188 (by kernel_rfl) rfl) (by simp) ⟨193, _, rfl, rfl, Below.refl _ _, rfl⟩
                      · exact wpOp_passed rfl rfl rfl (hpre 22 193 (by kernel_rfl) rfl) (by simp [undef]) ⟨194, _, rfl, rfl, Below.refl _ _, rfl⟩
                      · exact wpOp_passed rfl rfl rfl (hpre 22 193 (by kernel_rfl) rfl) (by simp [undef]) ⟨195, _, rfl, rfl, Below.refl _ _, rfl⟩
                      · exact wpOp_passed rfl rfl rfl (hpre 22 193 (by kernel_rfl) rfl) (by simp [undef]) ⟨196, _, rfl, rfl, Below.refl _ _, rfl⟩
                      · exact wpOp_passed rfl rfl rfl (hpre 22 193 (by kernel_rfl) rfl) (by simp [undef]) ⟨197, _, rfl, rfl, Below.refl _ _, rfl⟩
                      · exact wpOp_passed rfl rfl rfl (hpre 22 193 (by kernel_rfl) rfl) (by simp [undef]) ⟨198, _, rfl, rfl, Below.refl _ _, rfl⟩
                      · exact wpOp_passed rfl rfl rfl (hpre 22 193 (by kernel_rfl) rfl) (by simp [undef]) ⟨199, _, rfl, rfl, Below.refl _ _, rfl⟩
                      · exact wpOp_passed rfl rfl rfl (hpre 22 193 (by kernel_rfl) rfl) (by simp [undef]) ⟨200, _, rfl, rfl, Below.refl _ _, rfl⟩
                      · exact wpOp_passed rfl rfl rfl (hpre 22 193 (by kernel_rfl) rfl) (by simp [undef]) ⟨201, _, rfl, rfl, Below.refl _ _, rfl⟩
                      · exact wpOp_passed rfl rfl rfl (hpre 22 193 (by kernel_rfl) rfl) (by simp [undef]) ⟨202, _, rfl, rfl, Below.refl _ _, rfl⟩
                      · exact wpOp_passed rfl rfl rfl (hpre 22 193 (by kernel_rfl) rfl) (by simp [undef]) ⟨203, _, rfl, rfl, Below.refl _ _, rfl⟩
                      · exact wpOp_passed rfl rfl rfl (hpre 17 188 (by kernel_rfl) rfl) (by simp) ⟨204, _, rfl, rfl, Below.refl _ _, rfl⟩
                      · refine wpOp_wanted rfl rfl rfl (hpre 5 176 (by kernel_rfl) rfl) (fun K' hK => ?_)
                        have e0 : a.tmps.getD 188 undef = .bool true := hpre 17 188 (by kernel_rfl) rfl
                        have f0 := e0
                        rw [Array.getD_eq_getD_getElem?] at f0
                        clear hold hpre
                        go_simp
                        exact hK _ _ ⟨205, _, rfl, rfl, Below.refl _ _, rfl⟩
                      · refine wpOp_step rfl (fun K' hK => ?_)
                        have e0 : a.tmps.getD 176 undef = .bool true := hpre 5 176 (by kernel_rfl) rfl
                        have f0 := e0
                        rw [Array.getD_eq_getD_getElem?] at f0
                        have e1 : a.tmps.getD 205 undef = .bool true := hpre 34 205 (by kernel_rfl) rfl
                        have f1 := e1
                        rw [Array.getD_eq_getD_getElem?] at f1
                        clear hold hpre
                        go_simp
                        exact hK _ _ ⟨206, _, rfl, rfl, Below.refl _ _, rfl⟩
                      · refine wpOp_step rfl (fun K' hK => ?_)
                        have e0 : a.tmps.getD 206 undef = .bool true := hpre 35 206 (by kernel_rfl) rfl
                        have f0 := e0
                        rw [Array.getD_eq_getD_getElem?] at f0
                        clear hold hpre
                        go_simp
                        exact hK _ _ ⟨6, _, rfl, rfl, Below.refl _ _, rfl⟩
                    · intro a wx hdef hold hB2 hf
                      have e6 : a.tmps.getD 6 undef = .bool true := hf 36 6 rfl
                      have hBx := HBW.out _ hB2
                      clear hf hold
                      go_wp2_with fail
                      have e7 : a.tmps[6]?.getD undef = .bool true := by rw [← Array.getD_eq_getD_getElem?]; exact e6
                      exact bodyPost_ret (v := .bool true) (by simp [results, Try.results3, go_sem, e7]) hdef ⟨rfl, hBx⟩
                  · have hjq2 : ((j : Int) == (q : Int)) = false := by rw [beq_eq_false_iff_ne]; omega
                    have hjq4 : (j == q) = false := by rw [beq_eq_false_iff_ne]; exact hjq
                    have hjq5 : decide (j = q) = false := decide_eq_false hjq
                    have hjq3 : decide ((j : Int) < (q : Int)) = true := decide_eq_true (by omega)
                    have hjqi : (j : Int) < (q : Int) := by omega
                    obtain ⟨pt, hpt⟩ : ∃ p, L[j]? = some p := ⟨_, List.getElem?_eq_getElem (by rw [HK.out]; omega)⟩
                    have hSx : S[j]? = some pt.sec := by rw [← HS.out]; exact docsP_at hpt
                    obtain ⟨ad, rfl, _, _, _, _⟩ := doc_cell HO.out hB9 hpt
                    have HDoc : Hid (∀ W, Below w9.heap.size w9 W → W.cell? (ad.add j) = some (.slice pt.A pt.n pt.c) ∧ (convert 24 9 (.slice pt.A pt.n pt.c)).run Try.prog W = .ok (.string (bstr pt.V pt.n)) W) := Lib.hid fun W hW => by
                      obtain ⟨ad', e1, _, e3, _, _, _, e7⟩ := (HO.out.below (hB9.trans (hW.mono hB9.size))) j pt hpt
                      cases e1
                      exact ⟨e3, e7.conv _⟩
                    have HBt : Hid (∀ W, Below w9.heap.size w9 W → Hid (Calls Try.prog 19 #[.pointer (some aa), .int .i64 (j : Int)] W fun e w' => ∃ (A : Option Addr) (c : Nat), e = .returned (.slice A pt.n c) ∧ Below W.heap.size W w' ∧ Bys w' w'.heap.size A pt.n pt.V)) := Lib.hid fun W hW => Lib.hid ((HI.out.bytes _ _ S (j : Int) W hd0 (HI.out.keep HA9.out hW)).mono fun e w' h => by
                      obtain ⟨u, h1, h2⟩ := h.1 _ (by omega) (by rw [Int.toNat_natCast]; exact hSx)
                      obtain ⟨A, c, h3, _, _, h4⟩ := row_bys h2 (fun k hk => HV.out _ (List.mem_of_getElem? hSx) k hk)
                      exact ⟨A, c, by rw [h1, h3]; rfl, h.2.2, h4⟩)
                    generalize offT S j = oj at HSt ⊢
                    obtain ⟨A, z, cc, V⟩ := pt
                    have HDoc : Hid (∀ W, Below w9.heap.size w9 W → W.cell? (ad.add j) = some (.slice A z cc) ∧ (convert 24 9 (.slice A z cc)).run Try.prog W = .ok (.string (bstr V z)) W) := HDoc
                    have HBt : Hid (∀ W, Below w9.heap.size w9 W → Hid (Calls Try.prog 19 #[.pointer (some aa), .int .i64 (j : Int)] W fun e w' => ∃ (A : Option Addr) (c : Nat), e = .returned (.slice A z c) ∧ Below W.heap.size W w' ∧ Bys w' w'.heap.size A z V)) := HBt
                    clear hpt hSx
                    go_wp2_with fail
                    refine region_by_facts (Ψ := psiIn ad A aa j q c oj z cc V) (by kernel_rfl) (by kernel_rfl) (by kernel_rfl) psiIn_mono ?_ ?_
                    · intro jj hjj a wx hold hB2 hpre
                      have hjn : jj < 37 := hjj
                      have hj' : jj = 0 ∨ jj = 1 ∨ jj = 2 ∨ jj = 3 ∨ jj = 4 ∨ jj = 5 ∨ jj = 6 ∨ jj = 7 ∨ jj = 8 ∨ jj = 9 ∨ jj = 10 ∨ jj = 11 ∨ jj = 12 ∨ jj = 13 ∨ jj = 14 ∨ jj = 15 ∨ jj = 16 ∨ jj = 17 ∨ jj = 18 ∨ jj = 19 ∨ jj = 20 ∨ jj = 21 ∨ jj = 22 ∨ jj = 23 ∨ jj = 24 ∨ jj = 25 ∨ jj = 26 ∨ jj = 27 ∨ jj = 28 ∨ jj = 29 ∨ jj = 30 ∨ jj = 31 ∨ jj = 32 ∨ jj = 33 ∨ jj = 34 ∨ jj = 35 ∨ jj = 36 := by omega
                      clear hjj hjn
                      rcases hj' with rfl | rfl | rfl | rfl | rfl | rfl | rfl | rfl | rfl | rfl | rfl | rfl | rfl | rfl | rfl | rfl | rfl | rfl | rfl | rfl | rfl | rfl | rfl | rfl | rfl | rfl | rfl | rfl | rfl | rfl | rfl | rfl | rfl | rfl | rfl | rfl | rfl
                      · refine wpOp_step rfl (fun K' hK => ?_)
                        have e0 : a.tmps.getD 10 undef = .pointer (some aa) := hold 10 (not_dst (by kernel_rfl))
                        have f0 := e0
                        rw [Array.getD_eq_getD_getElem?] at f0
                        clear hold hpre
                        go_simp
                        exact hK _ _ ⟨171, _, rfl, rfl, Below.refl _ _, rfl⟩
                      · refine wpOp_step rfl (fun K' hK => ?_)
                        have e0 : a.tmps.getD 2 undef = .int .i64 (j : Int) := hold 2 (not_dst (by kernel_rfl))
                        have f0 := e0
                        rw [Array.getD_eq_getD_getElem?] at f0
                        clear hold hpre
                        go_simp
                        exact hK _ _ ⟨172, _, rfl, rfl, Below.refl _ _, rfl⟩
                      · refine wpOp_step rfl (fun K' hK => ?_)
                        have e0 : a.tmps.getD 171 undef = .pointer (some aa) := hpre 0 171 (by kernel_rfl) rfl
                        have f0 := e0
                        rw [Array.getD_eq_getD_getElem?] at f0
                        have e1 : a.tmps.getD 172 undef = .int .i64 (j : Int) := hpre 1 172 (by kernel_rfl) rfl
                        have f1 := e1
                        rw [Array.getD_eq_getD_getElem?] at f1
                        have HC := HSt.out wx hB2
                        clear hold hpre
                        go_simp
                        refine HC.out.mono ?_
                        rintro e w' ⟨rfl, hb'⟩
                        exact hK _ _ ⟨173, _, rfl, rfl, hb', rfl⟩
                      · refine wpOp_step rfl (fun K' hK => ?_)
                        have e0 : a.tmps.getD 19 undef = .int .i64 (oj : Int) := hold 19 (not_dst (by kernel_rfl))
                        have f0 := e0
                        rw [Array.getD_eq_getD_getElem?] at f0
                        clear hold hpre
                        go_simp
                        exact hK _ _ ⟨174, _, rfl, rfl, Below.refl _ _, rfl⟩
                      · refine wpOp_step rfl (fun K' hK => ?_)
                        have e0 : a.tmps.getD 173 undef = .int .i64 (oj : Int) := hpre 2 173 (by kernel_rfl) rfl
                        have f0 := e0
                        rw [Array.getD_eq_getD_getElem?] at f0
                        have e1 : a.tmps.getD 174 undef = .int .i64 (oj : Int) := hpre 3 174 (by kernel_rfl) rfl
                        have f1 := e1
                        rw [Array.getD_eq_getD_getElem?] at f1
                        clear hold hpre
                        go_simp
                        exact hK _ _ ⟨175, _, rfl, rfl, Below.refl _ _, rfl⟩
                      · refine wpOp_step rfl (fun K' hK => ?_)
                        have e0 : a.tmps.getD 175 undef = .bool true := hpre 4 175 (by kernel_rfl) rfl
                        have f0 := e0
                        rw [Array.getD_eq_getD_getElem?] at f0
                        clear hold hpre
                        go_simp
                        exact hK _ _ ⟨176, _, rfl, rfl, Below.refl _ _, rfl⟩
                      · refine wpOp_wanted rfl rfl rfl (hpre 5 176 (by kernel_rfl) rfl) (fun K' hK => ?_)
                        have e0 : a.tmps.getD 2 undef = .int .i64 (j : Int) := hold 2 (not_dst (by kernel_rfl))
                        have f0 := e0
                        rw [Array.getD_eq_getD_getElem?] at f0
                        clear hold hpre
                        go_simp
                        exact hK _ _ ⟨177, _, rfl, rfl, Below.refl _ _, rfl⟩
                      · refine wpOp_wanted rfl rfl rfl (hpre 5 176 (by kernel_rfl) rfl) (fun K' hK => ?_)
                        have e0 : a.tmps.getD 0 undef = .slice (some ad) q c := hold 0 (not_dst (by kernel_rfl))
                        have f0 := e0
                        rw [Array.getD_eq_getD_getElem?] at f0
                        clear hold hpre
                        go_simp
                        exact hK _ _ ⟨178, _, rfl, rfl, Below.refl _ _, rfl⟩
                      · refine wpOp_wanted rfl rfl rfl (hpre 5 176 (by kernel_rfl) rfl) (fun K' hK => ?_)
                        have e0 : a.tmps.getD 178 undef = .slice (some ad) q c := hpre 7 178 (by kernel_rfl) rfl
                        have f0 := e0
                        rw [Array.getD_eq_getD_getElem?] at f0
                        clear hold hpre
                        go_simp
                        exact hK _ _ ⟨179, _, rfl, rfl, Below.refl _ _, rfl⟩
                      · refine wpOp_wanted rfl rfl rfl (hpre 5 176 (by kernel_rfl) rfl) (fun K' hK => ?_)
                        have e0 : a.tmps.getD 177 undef = .int .i64 (j : Int) := hpre 6 177 (by kernel_rfl) rfl
                        have f0 := e0
                        rw [Array.getD_eq_getD_getElem?] at f0
                        have e1 : a.tmps.getD 179 undef = .int .i64 (q : Int) := hpre 8 179 (by kernel_rfl) rfl
                        have f1 := e1
                        rw [Array.getD_eq_getD_getElem?] at f1
                        clear hold hpre
                        go_simp
                        exact hK _ _ ⟨180, _, rfl, rfl, Below.refl _ _, rfl⟩
                      · refine wpOp_wanted rfl rfl rfl (hpre 5 176 (by kernel_rfl) rfl) (fun K' hK => ?_)
                        have e0 : a.tmps.getD 180 undef = .bool false := hpre 9 180 (by kernel_rfl) rfl
                        have f0 := e0
                        rw [Array.getD_eq_getD_getElem?] at f0
                        clear hold hpre
                        go_simp
                        exact hK _ _ ⟨181, _, rfl, rfl, Below.refl _ _, rfl⟩
                      · exact wpOp_passed rfl rfl rfl (hpre 10 181 (by kernel_rfl) rfl) (by simp) ⟨182, _, rfl, rfl, Below.refl _ _, rfl⟩
                      · exact wpOp_passed rfl rfl rfl (hpre 10 181 (by kernel_rfl) rfl) (by simp) ⟨183, _, rfl, rfl, Below.refl _ _, rfl⟩
                      · exact wpOp_passed rfl rfl rfl (hpre 10 181 (by kernel_rfl) rfl) (by simp) ⟨184, _, rfl, rfl, Below.refl _ _, rfl⟩
                      · exact wpOp_passed rfl rfl rfl (hpre 10 181 (by kernel_rfl) rfl) (by simp) ⟨185, _, rfl, rfl, Below.refl _ _, rfl⟩
                      · exact wpOp_passed rfl rfl rfl (hpre 10 181 (by kernel_rfl) rfl) (by simp) ⟨186, _, rfl, rfl, Below.refl _ _, rfl⟩
                      · refine wpOp_wanted rfl rfl rfl (hpre 5 176 (by kernel_rfl) rfl) (fun K' hK => ?_)
                        have e0 : a.tmps.getD 181 undef = .bool false := hpre 10 181 (by kernel_rfl) rfl
                        have f0 := e0
                        rw [Array.getD_eq_getD_getElem?] at f0
                        clear hold hpre
                        go_simp
                        exact hK _ _ ⟨187, _, rfl, rfl, Below.refl _ _, rfl⟩
                      · refine wpOp_wanted rfl rfl rfl (hpre 5 176 (by kernel_rfl) rfl) (fun K' hK => ?_)
                        have e0 : a.tmps.getD 187 undef = .bool false := hpre 16 187 (by kernel_rfl) rfl
                        have f0 := e0
                        rw [Array.getD_eq_getD_getElem?] at f0
                        clear hold hpre
                        go_simp
                        exact hK _ _ ⟨188, _, rfl, rfl, Below.refl _ _, rfl⟩
                      · refine wpOp_wanted rfl rfl rfl (hpre 17 188 (by kernel_rfl) rfl) (fun K' hK => ?_)
                        have e0 : a.tmps.getD 2 undef = .int .i64 (j : Int) := hold 2 (not_dst (by kernel_rfl))
                        have f0 := e0
                        rw [Array.getD_eq_getD_getElem?] at f0
                        clear hold hpre
                        go_simp
                        exact hK _ _ ⟨189, _, rfl, rfl, Below.refl _ _, rfl⟩
                      · refine wpOp_wanted rfl rfl rfl (hpre 17 188 (by kernel_rfl) rfl) (fun K' hK => ?_)
                        have e0 : a.tmps.getD 0 undef = .slice (some ad) q c := hold 0 (not_dst (by kernel_rfl))
                        have f0 := e0
                        rw [Array.getD_eq_getD_getElem?] at f0
                        clear hold hpre
                        go_simp
                        exact hK _ _ ⟨190, _, rfl, rfl, Below.refl _ _, rfl⟩
                      · refine wpOp_wanted rfl rfl rfl (hpre 17 188 (by kernel_rfl) rfl) (fun K' hK => ?_)
                        have e0 : a.tmps.getD 190 undef = .slice (some ad) q c := hpre 19 190 (by kernel_rfl) rfl
                        have f0 := e0
                        rw [Array.getD_eq_getD_getElem?] at f0
                        clear hold hpre
                        go_simp
                        exact hK _ _ ⟨191, _, rfl, rfl, Below.refl _ _, rfl⟩
                      · refine wpOp_wanted rfl rfl rfl (hpre 17 188 (by kernel_rfl) rfl) (fun K' hK => ?_)
                        have e0 : a.tmps.getD 189 undef = .int .i64 (j : Int) := hpre 18 189 (by kernel_rfl) rfl
                        have f0 := e0
                        rw [Array.getD_eq_getD_getElem?] at f0
                        have e1 : a.tmps.getD 191 undef = .int .i64 (q : Int) := hpre 20 191 (by kernel_rfl) rfl
                        have f1 := e1
                        rw [Array.getD_eq_getD_getElem?] at f1
                        clear hold hpre
                        go_simp
                        exact hK _ _ ⟨192, _, rfl, rfl, Below.refl _ _, rfl⟩
                      · refine wpOp_wanted rfl rfl rfl (hpre 17 188 (by kernel_rfl) rfl) (fun K' hK => ?_)
                        have e0 : a.tmps.getD 192 undef = .bool true := hpre 21 192 (by kernel_rfl) rfl
                        have f0 := e0
                        rw [Array.getD_eq_getD_getElem?] at f0
                        clear hold hpre
                        go_simp
                        exact hK _ _ ⟨193, _, rfl, rfl, Below.refl _ _, rfl⟩
                      · refine wpOp_wanted rfl rfl rfl (hpre 22 193 (by kernel_rfl) rfl) (fun K' hK => ?_)
                        have e0 : a.tmps.getD 10 undef = .pointer (some aa) := hold 10 (not_dst (by kernel_rfl))
                        have f0 := e0
                        rw [Array.getD_eq_getD_getElem?] at f0
                        clear hold hpre
                        go_simp
                        exact hK _ _ ⟨194, _, rfl, rfl, Below.refl _ _, rfl⟩
                      · refine wpOp_wanted rfl rfl rfl (hpre 22 193 (by kernel_rfl) rfl) (fun K' hK => ?_)
                        have e0 : a.tmps.getD 2 undef = .int .i64 (j : Int) := hold 2 (not_dst (by kernel_rfl))
                        have f0 := e0
                        rw [Array.getD_eq_getD_getElem?] at f0
                        clear hold hpre
                        go_simp
                        exact hK _ _ ⟨195, _, rfl, rfl, Below.refl _ _, rfl⟩
                      · refine wpOp_wanted rfl rfl rfl (hpre 22 193 (by kernel_rfl) rfl) (fun K' hK => ?_)
                        have e0 : a.tmps.getD 194 undef = .pointer (some aa) := hpre 23 194 (by kernel_rfl) rfl
                        have f0 := e0
                        rw [Array.getD_eq_getD_getElem?] at f0
                        have e1 : a.tmps.getD 195 undef = .int .i64 (j : Int) := hpre 24 195 (by kernel_rfl) rfl
                        have f1 := e1
                        rw [Array.getD_eq_getD_getElem?] at f1
                        have HC := HBt.out wx hB2
                        clear hold hpre
                        go_simp
                        refine HC.out.mono ?_
                        rintro e w' ⟨Y, cy, rfl, hb', hby⟩
                        exact hK _ _ ⟨196, _, rfl, rfl, hb', ⟨Y, cy, rfl, hby⟩⟩
                      · refine wpOp_wanted rfl rfl rfl (hpre 22 193 (by kernel_rfl) rfl) (fun K' hK => ?_)
                        obtain ⟨Y, cy, e0, hby⟩ : Cvs z V (a.tmps.getD 196 undef) wx := hpre 25 196 (by kernel_rfl) rfl
                        have f0 := e0
                        rw [Array.getD_eq_getD_getElem?] at f0
                        have hcv := hby.conv cy
                        clear hold hpre
                        go_simp
                        exact hK _ _ ⟨197, _, rfl, rfl, Below.refl _ _, rfl⟩
                      · refine wpOp_wanted rfl rfl rfl (hpre 22 193 (by kernel_rfl) rfl) (fun K' hK => ?_)
                        have e0 : a.tmps.getD 0 undef = .slice (some ad) q c := hold 0 (not_dst (by kernel_rfl))
                        have f0 := e0
                        rw [Array.getD_eq_getD_getElem?] at f0
                        clear hold hpre
                        go_simp
                        exact hK _ _ ⟨198, _, rfl, rfl, Below.refl _ _, rfl⟩
                      · refine wpOp_wanted rfl rfl rfl (hpre 22 193 (by kernel_rfl) rfl) (fun K' hK => ?_)
                        have e0 : a.tmps.getD 2 undef = .int .i64 (j : Int) := hold 2 (not_dst (by kernel_rfl))
                        have f0 := e0
                        rw [Array.getD_eq_getD_getElem?] at f0
                        clear hold hpre
                        go_simp
                        exact hK _ _ ⟨199, _, rfl, rfl, Below.refl _ _, rfl⟩
                      · refine wpOp_wanted rfl rfl rfl (hpre 22 193 (by kernel_rfl) rfl) (fun K' hK => ?_)
                        have e0 : a.tmps.getD 198 undef = .slice (some ad) q c := hpre 27 198 (by kernel_rfl) rfl
                        have f0 := e0
                        rw [Array.getD_eq_getD_getElem?] at f0
                        have e1 : a.tmps.getD 199 undef = .int .i64 (j : Int) := hpre 28 199 (by kernel_rfl) rfl
                        have f1 := e1
                        rw [Array.getD_eq_getD_getElem?] at f1
                        clear hold hpre
                        go_simp
                        exact hK _ _ ⟨200, _, rfl, rfl, Below.refl _ _, rfl⟩
                      · refine wpOp_wanted rfl rfl rfl (hpre 22 193 (by kernel_rfl) rfl) (fun K' hK => ?_)
                        have e0 : a.tmps.getD 200 undef = .pointer (some (ad.add j)) := hpre 29 200 (by kernel_rfl) rfl
                        have f0 := e0
                        rw [Array.getD_eq_getD_getElem?] at f0
                        have hcl := (HDoc.out wx hB2).1
                        clear hold hpre
                        go_simp
                        exact hK _ _ ⟨201, _, rfl, rfl, Below.refl _ _, rfl⟩
                      · refine wpOp_wanted rfl rfl rfl (hpre 22 193 (by kernel_rfl) rfl) (fun K' hK => ?_)
                        have e0 : a.tmps.getD 201 undef = .slice A z cc := hpre 30 201 (by kernel_rfl) rfl
                        have f0 := e0
                        rw [Array.getD_eq_getD_getElem?] at f0
                        have hcv := (HDoc.out wx hB2).2
                        clear hold hpre
                        go_simp
                        exact hK _ _ ⟨202, _, rfl, rfl, Below.refl _ _, rfl⟩
                      · refine wpOp_wanted rfl rfl rfl (hpre 22 193 (by kernel_rfl) rfl) (fun K' hK => ?_)
                        have e0 : a.tmps.getD 197 undef = .string (bstr V z) := hpre 26 197 (by kernel_rfl) rfl
                        have f0 := e0
                        rw [Array.getD_eq_getD_getElem?] at f0
                        have e1 : a.tmps.getD 202 undef = .string (bstr V z) := hpre 31 202 (by kernel_rfl) rfl
                        have f1 := e1
                        rw [Array.getD_eq_getD_getElem?] at f1
                        clear hold hpre
                        go_simp
                        exact hK _ _ ⟨203, _, rfl, rfl, Below.refl _ _, rfl⟩
                      · refine wpOp_wanted rfl rfl rfl (hpre 17 188 (by kernel_rfl) rfl) (fun K' hK => ?_)
                        have e0 : a.tmps.getD 193 undef = .bool true := hpre 22 193 (by kernel_rfl) rfl
                        have f0 := e0
                        rw [Array.getD_eq_getD_getElem?] at f0
                        have e1 : a.tmps.getD 203 undef = .bool true := hpre 32 203 (by kernel_rfl) rfl
                        have f1 := e1
                        rw [Array.getD_eq_getD_getElem?] at f1
                        clear hold hpre
                        go_simp
                        exact hK _ _ ⟨204, _, rfl, rfl, Below.refl _ _, rfl⟩
                      · refine wpOp_wanted rfl rfl rfl (hpre 5 176 (by kernel_rfl) rfl) (fun K' hK => ?_)
                        have e0 : a.tmps.getD 188 undef = .bool false := hpre 17 188 (by kernel_rfl) rfl
                        have f0 := e0
                        rw [Array.getD_eq_getD_getElem?] at f0
                        have e1 : a.tmps.getD 204 undef = .bool true := hpre 33 204 (by kernel_rfl) rfl
                        have f1 := e1
                        rw [Array.getD_eq_getD_getElem?] at f1
                        clear hold hpre
                        go_simp
                        exact hK _ _ ⟨205, _, rfl, rfl, Below.refl _ _, rfl⟩
                      · refine wpOp_step rfl (fun K' hK => ?_)
                        have e0 : a.tmps.getD 176 undef = .bool true := hpre 5 176 (by kernel_rfl) rfl
                        have f0 := e0
                        rw [Array.getD_eq_getD_getElem?] at f0
                        have e1 : a.tmps.getD 205 undef = .bool true := hpre 34 205 (by kernel_rfl) rfl
                        have f1 := e1
                        rw [Array.getD_eq_getD_getElem?] at f1
                        clear hold hpre
                        go_simp
                        exact hK _ _ ⟨206, _, rfl, rfl, Below.refl _ _, rfl⟩
                      · refine wpOp_step rfl (fun K' hK => ?_)
                        have e0 : a.tmps.getD 206 undef = .bool true := hpre 35 206 (by kernel_rfl) rfl
                        have f0 := e0
                        rw [Array.getD_eq_getD_getElem?] at f0
                        clear hold hpre
                        go_simp
                        exact hK _ _ ⟨6, _, rfl, rfl, Below.refl _ _, rfl⟩
                    · intro a wx hdef hold hB2 hf
                      have e6 : a.tmps.getD 6 undef = .bool true := hf 36 6 rfl
                      have hBx := HBW.out _ hB2
                      clear hf hold
                      go_wp2_with fail
                      have e7 : a.tmps[6]?.getD undef = .bool true := by rw [← Array.getD_eq_getD_getElem?]; exact e6
                      exact bodyPost_ret (v := .bool true) (by simp [results, Try.results3, go_sem, e7]) hdef ⟨rfl, hBx⟩
            · have hst : startI S d0 = -1 := by unfold startI; rw [if_neg (by rw [HSk.out]; exact hin)]
              have H10 := Lib.hid (HI.out.start _ _ S d0 w9 hd0 HA9.out)
              rw [hst] at H10
              have hcond : decide (d0 < 0) = true ∨ (decide (d0 < 0) = false ∧ decide ((q : Int) < d0) = true) := by
                by_cases h0 : d0 < 0
                · exact .inl (decide_eq_true h0)
                · exact .inr ⟨decide_eq_false h0, decide_eq_true (by omega)⟩
              rcases hcond with hd1 | ⟨hd1, hd2⟩
              all_goals
                go_wp2_with fail
                refine H10.out.mono ?_
                rintro e w10 ⟨rfl, hb10⟩
                have hB10 := hB9.trans (hb10.mono hB9.size)
                have H11 := Lib.hid (HI.out.bytes _ _ S d0 w10 hd0 (HI.out.keep HA9.out hb10))
                go_wp2_with fail
                refine H11.out.mono ?_
                rintro e w11 ⟨_, hno, hb11⟩
                obtain ⟨Y, cy, rfl⟩ := hno (by rw [HSk.out]; omega)
                have hB11 := hB10.trans (hb11.mono hB10.size)
                clear hno
                go_wp2_with fail
                go_ret
                exact ⟨rfl, hB11⟩
      · rw [decide_eq_false hr] at H3
        obtain rfl := h2 (fun h => hr ⟨by rw [← HSk.out]; exact h.1, h.2⟩)
        clear h1 h2 HN H2
        go_wp2_with fail
        refine H3.out.mono ?_
        rintro e w' ⟨rfl, rfl⟩
        go_wp2_with fail
        go_ret
        exact ⟨rfl, hB2⟩
end
end Go.Proofs.Ytkhkjbhhkclnlaa
