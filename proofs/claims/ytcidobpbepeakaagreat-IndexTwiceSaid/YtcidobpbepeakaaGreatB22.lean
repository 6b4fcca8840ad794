/- Texts of ours, joined: IxCounts IxTops. -/
import Derived.Test.YtcidobpbepeakaaGreatB04
import Derived.RegionTactic
import Derived.Deep.RegionHeld3
set_option maxRecDepth 1000000
set_option maxHeartbeats 6400000
namespace Go.Proofs.YtcidobpbepeakaaGreat
open Go.RowKit
section
variable {At:Nat→World→Value→List Sec→Prop}
theorem lenT_small {S:List Sec} {k b:Nat} (hk:S.length≤k) (hb:bytesT S≤b):lenT S≤b+k:=by rw [lenT_is];omega
theorem ixCounts_walk (I:IdxI At) (P:Option Addr) (c:Nat) (L:List Part) (A:Option Addr) (n ca:Nat) (V:Nat→Nat) (w:World) (hl:L.length≤c) (hcm:c≤maxLen) (hP:P=none→L=[]∧c=0) (ho:Secs w w.heap.size P L) (hn:n≤maxLen) (hA:A=none→n=0∧ca=0) (hby:Bys w w.heap.size A n V):
    Calls Tryz.prog 3 #[.slice P L.length c,.slice A n ca] w fun e w'=>e=.returned (.bool true)∧Below w.heap.size w w':=by
 have HI:=Lib.hid I
 have HBy:=Lib.hid hby
 have HA:=Lib.hid hA
 have HSc:=Lib.hid ho
 have hnl:n≤9223372036854775807:=by unfold maxLen at hn;omega
 have HF:=Lib.hid (ixfirst_any I w)
 have HSm:Hid (∀W,Below w.heap.size w W→Hid (Calls Tryz.prog 9 #[.slice P L.length c,.int .i64 2000,.int .i64 256] W fun e w'=>e=.returned (.bool (decide (L.length≤256∧bytesT (docsP L)≤2000)))∧W=w')):=Lib.hid fun W hW=>Lib.hid (refSmall_any P c L w.heap.size 2000 256 W (by omega) (by decide) (by decide) (ho.below hW))
 have HNw:Hid (∀W,Below w.heap.size w W→Hid (Calls Tryz.prog 10 #[.slice P L.length c] W fun e w'=>(RightT (docsP L)→∃v,e=.returned (.tuple #[v,.int .i64 0])∧At W.heap.size w' v (docsP L))∧(¬RightT (docsP L)→e=.returned (.tuple #[.pointer none,.int .i64 80]))∧Below W.heap.size W w')):=Lib.hid fun W hW=>Lib.hid (I.build P c L W hl hcm hP ((ho.below hW).mono_ hW.size))
 have HRg:Hid (∀W,Below w.heap.size w W→Hid (Calls Tryz.prog 13 #[.slice A n ca] W fun e w'=>e=.returned (.bool (decide (1≤n∧n≤256)))∧Below W.heap.size W w')):=Lib.hid fun W hW=>Lib.hid (I.right A n ca V W hn hA ((hby.below hW).mono_ hW.size))
 have HCt:Hid (L.length≤256→bytesT (docsP L)≤2000→0 < n→n≤1000→∀W,Below w.heap.size w W→Hid (Calls Tryz.prog 14 #[.slice P L.length c,.slice A n ca] W fun e w'=>e=.returned (.agg #[.int .i64 (((prW (docsP L) n V L.length).length:Nat):Int),.int .i64 ((tmW (docsP L) n V L.length:Nat):Int)])∧Below W.heap.size W w')):=Lib.hid fun h1 h2 h3 h4 W hW=>Lib.hid (refCount19_any P c L A n ca V W (by omega) (by have:=lenT_small (S:=docsP L) (k:=256) (b:=2000) (by rw [docsP_length];exact h1) h2;omega) ((ho.below hW).mono_ hW.size) h3 h4 ((hby.below hW).mono_ hW.size))
 have HLt:Hid (L.length≤256→bytesT (docsP L)≤2000→0 < n→n≤1000→∀W,Below w.heap.size w W→Hid (Calls Tryz.prog 16 #[.slice P L.length c,.slice A n ca] W fun e w'=>∃u,e=.returned u∧w'.ownsRow W.heap.size 3 1 u (dcW (docsP L) n V L.length).length (icells (lstI (dcW (docsP L) n V L.length)) (dcW (docsP L) n V L.length).length)∧Below W.heap.size W w')):=Lib.hid fun h1 h2 h3 h4 W hW=>Lib.hid (refList19_any P c L A n ca V W (by omega) (by have:=lenT_small (S:=docsP L) (k:=256) (b:=2000) (by rw [docsP_length];exact h1) h2;omega) ((ho.below hW).mono_ hW.size) h3 h4 ((hby.below hW).mono_ hW.size))
 obtain ⟨k,hk⟩:∃k,L.length=k:=⟨_,rfl⟩
 obtain ⟨S,hS⟩:∃S,docsP L=S:=⟨_,rfl⟩
 have hSk:S.length=k:=by rw [←hS,docsP_length,hk]
 rw [hk,hS] at HSm HNw HCt HLt
 rw [hk]
 have HSk:=Lib.hid hSk
 clear I ho hl hcm hP hk hS hSk hby hA hn
 go_enter Tryz.func3,Tryz.ntmps3
 go_wp2_with fail
 refine HF.out.mono ?_
 rintro e w0 ⟨rfl,hb0⟩
 have H1:=HSm.out w0 hb0
 by_cases hsm:k≤256∧bytesT S≤2000
 · rw [decide_eq_true hsm] at H1
   by_cases hn2:400 < n
   · have hd:decide ((400:Int) < (n:Int))=true:=decide_eq_true (by omega)
     have hd2:decide (400 < n)=true:=decide_eq_true hn2
     clear HF HSm HNw hsm
     go_wp2_with fail
     refine H1.out.mono ?_
     rintro e w' ⟨rfl,rfl⟩
     go_wp2_with fail
     go_ret
     exact ⟨rfl,hb0⟩
   have hd:decide ((400:Int) < (n:Int))=false:=decide_eq_false (by omega)
   have hd2:decide (400 < n)=false:=decide_eq_false hn2
   have H2:=HNw.out w0 hb0
   have HR:Hid (RightT S):=Lib.hid ⟨by rw [HSk.out];exact hsm.1,by omega⟩
   have hk256:=hsm.1
   have HSmall:=Lib.hid hsm
   clear HF HSm HNw hsm
   go_wp2_with fail
   refine H1.out.mono ?_
   rintro e w' ⟨rfl,rfl⟩
   go_wp2_with fail
   refine H2.out.mono ?_
   rintro e w1 ⟨h1,_,hb1⟩
   obtain ⟨v,rfl,hAt⟩:=h1 HR.out
   obtain ⟨a,rfl⟩:=HI.out.ptr hAt
   have HB1:=Lib.hid (hb0.trans (hb1.mono hb0.size))
   have HA1:=Lib.hid hAt
   have HC:=Lib.hid (HI.out.count _ _ S A n ca V w1 hAt (by omega) HA.out ((HBy.out.below HB1.out).mono_ HB1.out.size))
   clear h1 hb1 hAt H1 H2 hb0
   by_cases hq:RightQ n
   · have HQ:=Lib.hid hq
     obtain ⟨hq1,hq2⟩:=hq
     have q1:((n:Int)==0)=false:=by rw [beq_eq_false_iff_ne];omega
     have q1':¬(n:Int)=0:=by omega
     have q1'':¬n=0:=by omega
     have q2:decide ((256:Int) < (n:Int))=false:=decide_eq_false (by omega)
     have q2':decide (256 < n)=false:=decide_eq_false (by omega)
     go_wp2_with fail
     refine HC.out.mono ?_
     rintro e w2 ⟨h1,_,hb2⟩
     obtain rfl:=h1 HQ.out
     rw [HSk.out]
     obtain ⟨x,hx⟩:∃x,(prW S n V k).length=x:=⟨_,rfl⟩
     obtain ⟨y,hy⟩:∃y,tmW S n V k=y:=⟨_,rfl⟩
     rw [hx,hy] at HCt ⊢
     have hk1:Below w2.heap.size w2 (w2.alloc (.cells #[.int .i64 (x:Int),.int .i64 (y:Int)] 31)):=(Below.refl _ _).alloc (Nat.le_refl _) _
     have hl1:=lies_new w2 31 [.int .i64 (x:Int),.int .i64 (y:Int)]
     have hbk:=hb2.trans (hk1.mono hb2.size)
     have HB2:=Lib.hid (HB1.out.trans (hbk.mono HB1.out.size))
     have HL2:=Lib.hid hl1
     have HCl:=Lib.hid (HI.out.list _ _ S A n ca V _ (HI.out.keep HA1.out hbk) (by omega) HA.out ((HBy.out.below HB2.out).mono_ HB2.out.size))
     clear h1 hb2 hk1 hl1 hbk HB1 HA1 HC hx hy
     go_wp2_with fail
     refine HCl.out.mono ?_
     rintro e w3 ⟨h1,_,hb3⟩
     obtain ⟨A3,c3,rfl,hI3⟩:=h1 HQ.out
     have HB3:=Lib.hid (HB2.out.trans (hb3.mono HB2.out.size))
     have HL3:=Lib.hid (HL2.out.below hb3 HL2.out.lt)
     obtain ⟨gt,hgt⟩:∃g,w2.heap.size=g:=⟨_,rfl⟩
     rw [hgt] at HL3 ⊢
     rw [HSk.out] at hI3 ⊢
     obtain ⟨D,hD⟩:∃D,dcW S n V k=D:=⟨_,rfl⟩
     rw [hD] at hI3 HLt ⊢
     have HI3:=Lib.hid hI3
     clear h1 hb3 hI3 hgt HCl HB2 HL2 hD
     have HSS:Hid (∀W,Below w3.heap.size w3 W→W.cell? ⟨gt,0,none⟩=some (.int .i64 (x:Int))∧W.cell? ⟨gt,1,none⟩=some (.int .i64 (y:Int))∧Below w3.heap.size w3 W):=Lib.hid fun W hW=>
      ⟨(HL3.out.below hW HL3.out.lt).cell 0,(HL3.out.below hW HL3.out.lt).cell 1,hW⟩
     have HCw:Hid (∀W,Below w3.heap.size w3 W→Hid (Calls Tryz.prog 14 #[.slice P k c,.slice A n ca] W fun e w'=>e=.returned (.agg #[.int .i64 (x:Int),.int .i64 (y:Int)])∧Below W.heap.size W w')):=Lib.hid fun W hW=>HCt.out HSmall.out.1 HSmall.out.2 hq1 (by omega) W (HB3.out.trans (hW.mono HB3.out.size))
     have HLw:Hid (∀W,Below w3.heap.size w3 W→Hid (Calls Tryz.prog 16 #[.slice P k c,.slice A n ca] W fun e w'=>∃u,e=.returned u∧w'.ownsRow W.heap.size 3 1 u D.length (icells (lstI D) D.length)∧Below W.heap.size W w')):=Lib.hid fun W hW=>HLt.out HSmall.out.1 HSmall.out.2 hq1 (by omega) W (HB3.out.trans (hW.mono HB3.out.size))
     have HRw:Hid (∀W,Below w3.heap.size w3 W→Hid (Calls Tryz.prog 13 #[.slice A n ca] W fun e w'=>e=.returned (.bool true)∧Below W.heap.size W w')):=Lib.hid fun W hW=>by
      have h:=HRg.out W (HB3.out.trans (hW.mono HB3.out.size))
      rw [decide_eq_true (show 1≤n∧n≤256 from HQ.out)] at h
      exact h
     have HSa:Hid (∀(W:World) (A5:Option Addr) (c5:Nat),Below w3.heap.size w3 W→ItsR W A5 D.length c5 (lstI D)→Hid (Calls Tryz.prog 15 #[.slice A3 D.length c3,.slice A5 D.length c5] W fun e w'=>e=.returned (.bool true)∧Below W.heap.size W w')):=Lib.hid fun W A5 c5 hW h5=>Lib.hid ((refSame8_any A3 A5 D.length D.length c3 c5 _ _ _ _ W (by have h1:=HI3.out.2.1;have h2:=HI3.out.2.2.1;omega) (Nat.le_refl _) (Nat.le_refl _) (HI3.out.below hW).2.2.2 h5.2.2.2).mono fun e w' h=>by
      obtain ⟨b,h1,h2,h3⟩:=h
      obtain rfl:b=true:=h2.2 ⟨rfl,fun _ _=>rfl⟩
      exact ⟨h1,h3⟩)
     have HOw:Hid (∀(W:World) (u:Value) (B:Nat),W.ownsRow B 3 1 u D.length (icells (lstI D) D.length)→∃(A5:Option Addr) (c5:Nat),u=.slice A5 D.length c5∧ItsR W A5 D.length c5 (lstI D)):=Lib.hid fun W u B hu=>by
      obtain ⟨A5,c5,e,h5⟩:=ItsR.of_own hu HI3.out.2.2.2.small
      exact ⟨A5,c5,e,h5⟩
     have hbD:=below_drew' (Below.refl w3.heap.size w3)
     clear HCt HLt HRg HL3 HI3 HSmall HQ
     go_upto_region 12 with (fail)
     go_cut [4] (fun s wx=>s=.bool true∧Hid (Below w.heap.size w wx))
     case first=>
      go_region_held3 (fun w'=>w'.cell? ⟨gt,0,none⟩=some (.int .i64 (x:Int))∧w'.cell? ⟨gt,1,none⟩=some (.int .i64 (y:Int))∧Below w3.heap.size w3 w')
       ((first
         | exact HSS.out _ hbD
         | exact HSS.out _ hbA
         | exact HSS.out _ hbB
         | exact HSS.out _ hbC
         | exact HSS.out _ hbE))
       ((first
         | (go_at_call 14;(with_reducible refine (HCw.out _ hbD).out.mono ?_);rintro e wA ⟨rfl,hcA⟩;have hbA:=hbD.trans (hcA.mono hbD.size))
         | (go_at_call 16;(with_reducible refine (HLw.out _ hbA).out.mono ?_);rintro e wB ⟨u,rfl,hu,hcB⟩;have hbB:=hbA.trans (hcB.mono hbA.size);obtain ⟨A5,c5,rfl,h5⟩:=HOw.out _ _ _ hu;have HS5:=HSa.out _ _ _ hbB h5;clear hu h5)
         | (go_at_call 15;(with_reducible refine HS5.out.mono ?_);rintro e wC ⟨rfl,hcC⟩;have hbC:=hbB.trans (hcC.mono hbB.size))
         | (go_at_call 13;(with_reducible refine (HRw.out _ hbC).out.mono ?_);rintro e wE ⟨rfl,hcE⟩;have hbE:=hbC.trans (hcE.mono hbC.size))))
      all_goals
       go_wp2_with fail
       go_meet
       exact ⟨rfl,Lib.hid (HB3.out.trans (hbE.mono HB3.out.size))⟩
     case rest=>
      obtain ⟨rfl,hbc⟩:=hcut
      go_wp2_with fail
      go_ret
      exact ⟨rfl,hbc.out⟩
   · have HNQ:=Lib.hid hq
     have hNQ:n=0∨256 < n:=by unfold RightQ at hq;omega
     clear hq
     have HRw:Hid (∀W,Below w.heap.size w W→Hid (Calls Tryz.prog 13 #[.slice A n ca] W fun e w'=>e=.returned (.bool false)∧Below W.heap.size W w')):=Lib.hid fun W hW=>by
      have h:=HRg.out W hW
      rw [decide_eq_false (show ¬(1≤n∧n≤256) from HNQ.out)] at h
      exact h
     clear HCt HLt HRg HSmall
     rcases hNQ with h0 | h0
     · subst h0
       go_wp2_with fail
       refine HC.out.mono ?_
       rintro e w2 ⟨_,h1,hb2⟩
       obtain rfl:=h1 HNQ.out
       have hk1:Below w2.heap.size w2 (w2.alloc (.cells #[.int .i64 0,.int .i64 0] 31)):=(Below.refl _ _).alloc (Nat.le_refl _) _
       have hl1:=lies_new w2 31 [.int .i64 0,.int .i64 0]
       have hbk:=hb2.trans (hk1.mono hb2.size)
       have HB2:=Lib.hid (HB1.out.trans (hbk.mono HB1.out.size))
       have HL2:=Lib.hid hl1
       have HCl:=Lib.hid (HI.out.list _ _ S A 0 ca V _ (HI.out.keep HA1.out hbk) (by omega) (fun e=>⟨rfl,(HA.out e).2⟩) ((HBy.out.below HB2.out).mono_ HB2.out.size))
       clear h1 hb2 hk1 hl1 hbk HB1 HA1 HC
       go_wp2_with fail
       refine HCl.out.mono ?_
       rintro e w3 ⟨_,h1,hb3⟩
       obtain ⟨A3,c3,rfl⟩:=h1 HNQ.out
       have HB3:=Lib.hid (HB2.out.trans (hb3.mono HB2.out.size))
       have HL3:=HL2.out.below hb3 HL2.out.lt
       have d0:w3.cell? ⟨w2.heap.size,0,none⟩=some (.int .i64 0):=HL3.cell 0
       have d1:w3.cell? ⟨w2.heap.size,1,none⟩=some (.int .i64 0):=HL3.cell 1
       clear h1 hb3 HL3 HCl HB2 HL2
       have HR3:=HRw.out w3 HB3.out
       clear HRw
       go_wp2_with fail
       refine HR3.out.mono ?_
       rintro e w4 ⟨rfl,hb4⟩
       have HB4:=Lib.hid (HB3.out.trans (hb4.mono HB3.out.size))
       clear hb4 HR3
       go_wp2_with fail
       go_ret
       exact ⟨rfl,HB4.out⟩
     · have q1:((n:Int)==0)=false:=by rw [beq_eq_false_iff_ne];omega
       have q1':¬(n:Int)=0:=by omega
       have q1'':¬n=0:=by omega
       have q2:decide ((256:Int) < (n:Int))=true:=decide_eq_true (by omega)
       have q2':decide (256 < n)=true:=decide_eq_true (by omega)
       go_wp2_with fail
       refine HC.out.mono ?_
       rintro e w2 ⟨_,h1,hb2⟩
       obtain rfl:=h1 HNQ.out
       have hk1:Below w2.heap.size w2 (w2.alloc (.cells #[.int .i64 0,.int .i64 0] 31)):=(Below.refl _ _).alloc (Nat.le_refl _) _
       have hl1:=lies_new w2 31 [.int .i64 0,.int .i64 0]
       have hbk:=hb2.trans (hk1.mono hb2.size)
       have HB2:=Lib.hid (HB1.out.trans (hbk.mono HB1.out.size))
       have HL2:=Lib.hid hl1
       have HCl:=Lib.hid (HI.out.list _ _ S A _ ca V _ (HI.out.keep HA1.out hbk) (by omega) HA.out ((HBy.out.below HB2.out).mono_ HB2.out.size))
       clear h1 hb2 hk1 hl1 hbk HB1 HA1 HC
       go_wp2_with fail
       refine HCl.out.mono ?_
       rintro e w3 ⟨_,h1,hb3⟩
       obtain ⟨A3,c3,rfl⟩:=h1 HNQ.out
       have HB3:=Lib.hid (HB2.out.trans (hb3.mono HB2.out.size))
       have HL3:=HL2.out.below hb3 HL2.out.lt
       have d0:w3.cell? ⟨w2.heap.size,0,none⟩=some (.int .i64 0):=HL3.cell 0
       have d1:w3.cell? ⟨w2.heap.size,1,none⟩=some (.int .i64 0):=HL3.cell 1
       clear h1 hb3 HL3 HCl HB2 HL2
       have HR3:=HRw.out w3 HB3.out
       clear HRw
       go_wp2_with fail
       refine HR3.out.mono ?_
       rintro e w4 ⟨rfl,hb4⟩
       have HB4:=Lib.hid (HB3.out.trans (hb4.mono HB3.out.size))
       clear hb4 HR3
       go_wp2_with fail
       go_ret
       exact ⟨rfl,HB4.out⟩
 · rw [decide_eq_false hsm] at H1
   clear HF HSm HNw hsm
   go_wp2_with fail
   refine H1.out.mono ?_
   rintro e w' ⟨rfl,rfl⟩
   go_wp2_with fail
   go_ret
   exact ⟨rfl,hb0⟩
end
end Go.Proofs.YtcidobpbepeakaaGreat

namespace Go.Proofs.YtcidobpbepeakaaGreat
open Go.RowKit
section
variable {At:Nat→World→Value→List Sec→Prop}
theorem ixTops_walk (I:IdxI At) (P:Option Addr) (c:Nat) (L:List Part) (A:Option Addr) (n ca:Nat) (V:Nat→Nat) (K:Int) (w:World) (hK:(Lit.int .i64 K).wf=true) (hl:L.length≤c) (hcm:c≤maxLen) (hP:P=none→L=[]∧c=0) (ho:Secs w w.heap.size P L) (hn:n≤maxLen) (hA:A=none→n=0∧ca=0) (hby:Bys w w.heap.size A n V):
    Calls Tryz.prog 4 #[.slice P L.length c,.slice A n ca,.int .i64 K] w fun e w'=>e=.returned (.bool true)∧Below w.heap.size w w':=by
 have HI:=Lib.hid I
 have HBy:=Lib.hid hby
 have HA:=Lib.hid hA
 have HKw:=Lib.hid hK
 have hnl:n≤9223372036854775807:=by unfold maxLen at hn;omega
 have HF:=Lib.hid (ixfirst_any I w)
 have HSm:Hid (∀W,Below w.heap.size w W→Hid (Calls Tryz.prog 9 #[.slice P L.length c,.int .i64 2000,.int .i64 256] W fun e w'=>e=.returned (.bool (decide (L.length≤256∧bytesT (docsP L)≤2000)))∧W=w')):=Lib.hid fun W hW=>Lib.hid (refSmall_any P c L w.heap.size 2000 256 W (by omega) (by decide) (by decide) (ho.below hW))
 have HNw:Hid (∀W,Below w.heap.size w W→Hid (Calls Tryz.prog 10 #[.slice P L.length c] W fun e w'=>(RightT (docsP L)→∃v,e=.returned (.tuple #[v,.int .i64 0])∧At W.heap.size w' v (docsP L))∧(¬RightT (docsP L)→e=.returned (.tuple #[.pointer none,.int .i64 80]))∧Below W.heap.size W w')):=Lib.hid fun W hW=>Lib.hid (I.build P c L W hl hcm hP ((ho.below hW).mono_ hW.size))
 have HTp:Hid (1≤K→L.length≤256→bytesT (docsP L)≤2000→0 < n→n≤1000→∀W,Below w.heap.size w W→Hid (Calls Tryz.prog 19 #[.slice P L.length c,.slice A n ca,.int .i64 K] W (TopPost W (prW (docsP L) n V L.length) K))):=Lib.hid fun h0 h1 h2 h3 h4 W hW=>Lib.hid (refTop19_any P c L A n ca V K W h0 hK (by omega) (by have:=lenT_small (S:=docsP L) (k:=256) (b:=2000) (by rw [docsP_length];exact h1) h2;omega) ((ho.below hW).mono_ hW.size) h3 h4 ((hby.below hW).mono_ hW.size))
 obtain ⟨k,hk⟩:∃k,L.length=k:=⟨_,rfl⟩
 obtain ⟨S,hS⟩:∃S,docsP L=S:=⟨_,rfl⟩
 have hSk:S.length=k:=by rw [←hS,docsP_length,hk]
 rw [hk,hS] at HSm HNw HTp
 rw [hk]
 have HSk:=Lib.hid hSk
 clear I ho hl hcm hP hk hS hSk hby hA hn hK
 go_enter Tryz.func4,Tryz.ntmps4
 go_wp2_with fail
 refine HF.out.mono ?_
 rintro e w0 ⟨rfl,hb0⟩
 have H1:=HSm.out w0 hb0
 by_cases hsm:k≤256∧bytesT S≤2000
 · rw [decide_eq_true hsm] at H1
   by_cases hn2:400 < n
   · have hd:decide ((400:Int) < (n:Int))=true:=decide_eq_true (by omega)
     have hd2:decide (400 < n)=true:=decide_eq_true hn2
     clear HF HSm HNw hsm
     go_wp2_with fail
     refine H1.out.mono ?_
     rintro e w' ⟨rfl,rfl⟩
     go_wp2_with fail
     go_ret
     exact ⟨rfl,hb0⟩
   have hd:decide ((400:Int) < (n:Int))=false:=decide_eq_false (by omega)
   have hd2:decide (400 < n)=false:=decide_eq_false hn2
   have H2:=HNw.out w0 hb0
   have HR:Hid (RightT S):=Lib.hid ⟨by rw [HSk.out];exact hsm.1,by omega⟩
   have hk256:=hsm.1
   have HSmall:=Lib.hid hsm
   clear HF HSm HNw hsm
   go_wp2_with fail
   refine H1.out.mono ?_
   rintro e w' ⟨rfl,rfl⟩
   go_wp2_with fail
   refine H2.out.mono ?_
   rintro e w1 ⟨h1,_,hb1⟩
   obtain ⟨v,rfl,hAt⟩:=h1 HR.out
   obtain ⟨a,rfl⟩:=HI.out.ptr hAt
   have HB1:=Lib.hid (hb0.trans (hb1.mono hb0.size))
   have HC:=Lib.hid (HI.out.top _ _ S A n ca V K w1 hAt (by omega) HA.out ((HBy.out.below HB1.out).mono_ HB1.out.size) HKw.out)
   clear h1 hb1 hAt H1 H2 hb0
   by_cases hq:RightQ n∧1≤K
   · have HQ:=Lib.hid hq
     obtain ⟨⟨hq1,hq2⟩,hq3⟩:=hq
     have q1:((n:Int)==0)=false:=by rw [beq_eq_false_iff_ne];omega
     have q1':¬(n:Int)=0:=by omega
     have q1'':¬n=0:=by omega
     have q2:decide ((256:Int) < (n:Int))=false:=decide_eq_false (by omega)
     have q2':decide (256 < n)=false:=decide_eq_false (by omega)
     have q3:decide (K < 1)=false:=decide_eq_false (by omega)
     go_wp2_with fail
     refine HC.out.mono ?_
     rintro e w2 ⟨h1,_,hb2⟩
     obtain ⟨A2,c2,R2,T2,rfl,_,hR2,hT2,hP2⟩:=h1 HQ.out
     rw [HSk.out] at hR2
     have HB2:=Lib.hid (HB1.out.trans (hb2.mono HB1.out.size))
     have HP2:=Lib.hid hP2
     have HRT:=Lib.hid (And.intro hR2 hT2)
     have HT3:=HTp.out hq3 HSmall.out.1 HSmall.out.2 hq1 (by omega) w2 HB2.out
     clear h1 hb2 hR2 hT2 hP2 HC HB1
     go_wp2_with fail
     refine HT3.out.mono ?_
     rintro e w3 ⟨⟨A3,c3,R3,T3,rfl,hR3,hT3,hP3⟩,hb3⟩
     have HB3:=Lib.hid (HB2.out.trans (hb3.mono HB2.out.size))
     have hTT:T3=T2:=by rw [hT3,HRT.out.2,hR3.one HRT.out.1]
     clear hT3
     subst hTT
     have HS4:=Lib.hid (refSameP_any A2 A3 c2 c3 T3 w3 (HP2.out.below hb3) hP3)
     clear hR3 hP3 hb3 HT3 HRT HP2 HB2 HTp
     go_wp2_with fail
     refine HS4.out.mono ?_
     rintro e w4 ⟨rfl,hb4⟩
     have HB4:=Lib.hid (HB3.out.trans (hb4.mono HB3.out.size))
     clear hb4 HS4
     go_wp2_with fail
     go_ret
     exact ⟨rfl,HB4.out⟩
   · have HNQ:=Lib.hid hq
     have hNQ:n=0∨256 < n∨(1≤n∧n≤256∧K < 1):=by unfold RightQ at hq;omega
     clear hq HTp HSmall
     rcases hNQ with h0 | h0 | ⟨h0,h00,h000⟩
     · subst h0
       go_wp2_with fail
       refine HC.out.mono ?_
       rintro e w2 ⟨_,h1,hb2⟩
       obtain ⟨A2,c2,rfl⟩:=h1 HNQ.out
       have HB2:=Lib.hid (HB1.out.trans (hb2.mono HB1.out.size))
       clear h1 hb2
       go_wp2_with fail
       go_ret
       exact ⟨rfl,HB2.out⟩
     · have q1:((n:Int)==0)=false:=by rw [beq_eq_false_iff_ne];omega
       have q1':¬(n:Int)=0:=by omega
       have q1'':¬n=0:=by omega
       have q2:decide ((256:Int) < (n:Int))=true:=decide_eq_true (by omega)
       have q2':decide (256 < n)=true:=decide_eq_true (by omega)
       go_wp2_with fail
       refine HC.out.mono ?_
       rintro e w2 ⟨_,h1,hb2⟩
       obtain ⟨A2,c2,rfl⟩:=h1 HNQ.out
       have HB2:=Lib.hid (HB1.out.trans (hb2.mono HB1.out.size))
       clear h1 hb2
       go_wp2_with fail
       go_ret
       exact ⟨rfl,HB2.out⟩
     · have q1:((n:Int)==0)=false:=by rw [beq_eq_false_iff_ne];omega
       have q1':¬(n:Int)=0:=by omega
       have q1'':¬n=0:=by omega
       have q2:decide ((256:Int) < (n:Int))=false:=decide_eq_false (by omega)
       have q2':decide (256 < n)=false:=decide_eq_false (by omega)
       have q3:decide (K < 1)=true:=decide_eq_true h000
       go_wp2_with fail
       refine HC.out.mono ?_
       rintro e w2 ⟨_,h1,hb2⟩
       obtain ⟨A2,c2,rfl⟩:=h1 HNQ.out
       have HB2:=Lib.hid (HB1.out.trans (hb2.mono HB1.out.size))
       clear h1 hb2
       go_wp2_with fail
       go_ret
       exact ⟨rfl,HB2.out⟩
 · rw [decide_eq_false hsm] at H1
   clear HF HSm HNw hsm
   go_wp2_with fail
   refine H1.out.mono ?_
   rintro e w' ⟨rfl,rfl⟩
   go_wp2_with fail
   go_ret
   exact ⟨rfl,hb0⟩
end
end Go.Proofs.YtcidobpbepeakaaGreat
