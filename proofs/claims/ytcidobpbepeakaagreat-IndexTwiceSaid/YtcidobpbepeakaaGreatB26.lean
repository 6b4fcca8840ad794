/- Texts of ours, joined: IxTwice. -/
import Derived.Test.YtcidobpbepeakaaGreatB23
import Derived.Test.YtcidobpbepeakaaGreatB04
import Derived.RegionTactic
import Derived.Deep.RegionHeld3
set_option maxRecDepth 1000000
set_option maxHeartbeats 6400000
namespace Go.Proofs.YtcidobpbepeakaaGreat
open Go.RowKit
section
variable {At:Nat→World→Value→List Sec→Prop}
theorem secs_own {W:World} {B n:Nat} {A:Option Addr} {c:Nat} {L:List Part} (h:W.ownsRow B 23 1 (.slice A n c) n (pcells L)) (hp:∀p∈L,p.n≤p.c∧p.c≤maxLen∧(p.A=none→p.n=0∧p.c=0)∧Bys W W.heap.size p.A p.n p.V):n=L.length∧n≤c∧c≤maxLen∧(A=none→L=[]∧c=0)∧Secs W W.heap.size A L:=by
 have hr:=owns_room h
 have hn:n=L.length:=by have:=h.1;rw [pcells_length] at this;omega
 refine ⟨hn,hr.1,hr.2,fun e=>?_,fun j p hj=>?_⟩
 · subst e
   rcases h.2 with ⟨e,h0⟩ | ⟨_,_,_,e,_⟩
   · cases e
     exact ⟨List.length_eq_zero_iff.1 hn.symm,rfl⟩
   · cases e
 · have hjl:=(List.getElem?_eq_some_iff.1 hj).1
   obtain ⟨g,c',e,_,hg,_⟩:=owns_some h (by omega)
   cases e
   obtain ⟨h1,h2,h3,h4⟩:=hp p (List.mem_of_getElem? hj)
   exact ⟨⟨g,0,none⟩,rfl,hg,h.cells rfl j _ (pcells_at hj),h1,h2,h3,h4⟩
theorem docsP_append (L L':List Part):docsP (L++L')=docsP L++docsP L':=by unfold docsP;rw [List.map_append]
theorem bytesT_append (S S':List Sec):bytesT (S++S')=bytesT S+bytesT S':=by unfold bytesT;rw [List.map_append,List.sum_append]
theorem plW_room {S:List Sec} {m:Nat} {p:Nat→Nat} {z:Int×Nat}:∀ {k:Nat},z∈plW S m p k→0≤z.1∧z.1 < (k:Int)
 | 0,h=>by cases h
 | k+1,h=>by
   have h:z∈plW S m p k++plA S m p k:=h
   rcases List.mem_append.1 h with h | h
   · have:=plW_room h
     omega
   · rw [plA_doc h]
     omega
theorem ixTwice_walk (I:IdxI At) (P:Option Addr) (c:Nat) (L:List Part) (A:Option Addr) (n ca:Nat) (V:Nat→Nat) (w:World) (hl:L.length≤c) (hcm:c≤maxLen) (hP:P=none→L=[]∧c=0) (ho:Secs w w.heap.size P L) (hn:n≤maxLen) (hA:A=none→n=0∧ca=0) (hby:Bys w w.heap.size A n V):
    Calls Tryz.prog 7 #[.slice P L.length c,.slice A n ca] w fun e w'=>e=.returned (.bool true)∧Below w.heap.size w w':=by
 have HI:=Lib.hid I
 have HBy:=Lib.hid hby
 have HA:=Lib.hid hA
 have HSc:=Lib.hid ho
 have hnl:n≤9223372036854775807:=by unfold maxLen at hn;omega
 have HF:=Lib.hid (ixfirst_any I w)
 have HSm:Hid (∀W,Below w.heap.size w W→Hid (Calls Tryz.prog 9 #[.slice P L.length c,.int .i64 1000,.int .i64 100] W fun e w'=>e=.returned (.bool (decide (L.length≤100∧bytesT (docsP L)≤1000)))∧W=w')):=Lib.hid fun W hW=>Lib.hid (refSmall_any P c L w.heap.size 1000 100 W (by omega) (by decide) (by decide) (ho.below hW))
 have HNw:Hid (∀W,Below w.heap.size w W→Hid (Calls Tryz.prog 10 #[.slice P L.length c] W fun e w'=>(RightT (docsP L)→∃v,e=.returned (.tuple #[v,.int .i64 0])∧At W.heap.size w' v (docsP L))∧(¬RightT (docsP L)→e=.returned (.tuple #[.pointer none,.int .i64 80]))∧Below W.heap.size W w')):=Lib.hid fun W hW=>Lib.hid (I.build P c L W hl hcm hP ((ho.below hW).mono_ hW.size))
 have HNd:Hid (∀(W:World) (B:Nat) (X:Option Addr) (N cx:Nat),Below w.heap.size w W→W.ownsRow B 23 1 (.slice X N cx) N (pcells (L++L))→Hid (Calls Tryz.prog 10 #[.slice X N cx] W fun e w'=>(RightT (docsP L++docsP L)→∃v,e=.returned (.tuple #[v,.int .i64 0])∧At W.heap.size w' v (docsP L++docsP L))∧Below W.heap.size W w')):=Lib.hid fun W B X N cx hW h=>Lib.hid (by
  obtain ⟨e,h1,h2,h3,h4⟩:=secs_own h (fun p hp=>by
   have hp2:p∈L:=by
    rcases List.mem_append.1 hp with g | g <;> exact g
   obtain ⟨j,hj⟩:=List.getElem?_of_mem hp2
   obtain ⟨_,_,_,_,g1,g2,g3,g4⟩:=(ho.below hW) j p hj
   exact ⟨g1,g2,g3,g4.mono_ hW.size⟩)
  have hb:=I.build X cx (L++L) W (by omega) h2 h3 h4
  rw [docsP_append,←e] at hb
  exact hb.mono fun e w' h=>⟨h.1,h.2.2⟩)
 have HRg:Hid (∀W,Below w.heap.size w W→Hid (Calls Tryz.prog 13 #[.slice A n ca] W fun e w'=>e=.returned (.bool (decide (1≤n∧n≤256)))∧Below W.heap.size W w')):=Lib.hid fun W hW=>Lib.hid (I.right A n ca V W hn hA ((hby.below hW).mono_ hW.size))
 have HPn:Hid (P=none→L.length=0∧c=0):=Lib.hid fun e=>by
  obtain ⟨h1,h2⟩:=hP e
  exact ⟨by rw [h1];rfl,h2⟩
 obtain ⟨k,hk⟩:∃k,L.length=k:=⟨_,rfl⟩
 obtain ⟨S,hS⟩:∃S,docsP L=S:=⟨_,rfl⟩
 have hSk:S.length=k:=by rw [←hS,docsP_length,hk]
 rw [hk,hS] at HSm HNw
 rw [hS] at HNd
 rw [hk] at HPn ⊢
 have HSk:=Lib.hid hSk
 have HK:=Lib.hid hk
 clear I ho hl hcm hP hk hS hSk hby hA hn
 go_enter Tryz.func7,Tryz.ntmps7
 go_wp2_with fail
 refine HF.out.mono ?_
 rintro e w0 ⟨rfl,hb0⟩
 have H1:=HSm.out w0 hb0
 by_cases hsm:k≤100∧bytesT S≤1000
 · rw [decide_eq_true hsm] at H1
   have HRq:=HRg.out w0 hb0
   have HR:Hid (RightT S):=Lib.hid ⟨by rw [HSk.out];omega,by omega⟩
   have HR2:Hid (RightT (S++S)):=Lib.hid ⟨by rw [List.length_append,HSk.out];omega,by rw [bytesT_append];omega⟩
   have hk100:=hsm.1
   have HSmall:=Lib.hid hsm
   by_cases hq:RightQ n
   · have HQ:=Lib.hid hq
     rw [decide_eq_true (show 1≤n∧n≤256 from hq)] at HRq
     obtain ⟨hq1,hq2⟩:=hq
     have HNw0:=HNw
     clear HF HSm HRg hsm HNw
     go_wp2_with fail
     refine H1.out.mono ?_
     rintro e w' ⟨rfl,rfl⟩
     go_wp2_with fail
     refine HRq.out.mono ?_
     rintro e wq ⟨rfl,hbq⟩
     have hb1:=hb0.trans (hbq.mono hb0.size)
     have H2:=HNw0.out wq hb1
     clear HNw0 HRq H1 hb0 hbq
     go_wp2_with fail
     refine H2.out.mono ?_
     rintro e w1 ⟨h1,_,hbx⟩
     obtain ⟨v,rfl,hAt⟩:=h1 HR.out
     obtain ⟨a,rfl⟩:=HI.out.ptr hAt
     have HB1:=Lib.hid (hb1.trans (hbx.mono hb1.size))
     have HA1:=Lib.hid hAt
     have HOwn0:Hid ((w1.alloc (.cells #[] 23)).ownsRow w1.heap.size 23 1 (.slice (some ⟨w1.heap.size,0,none⟩) 0 0) 0 []):=Lib.hid (World.ownsRow_lit w1 #[] 0 (Nat.le_refl _) (Nat.zero_le _) rfl)
     have HBe:Hid (Below w1.heap.size w1 (w1.alloc (.cells #[] 23))):=Lib.hid ((Below.refl _ _).alloc (Nat.le_refl _) _)
     have hwle:w1.heap.size≤(w1.alloc (.cells #[] 23)).heap.size:=by rw [size_alloc];omega
     have HWle:=Lib.hid hwle
     obtain ⟨k2,hk2⟩:∃k2,k+k=k2:=⟨_,rfl⟩
     have HK2:=Lib.hid hk2
     have hk200:k2≤200:=by omega
     clear h1 hb1 hbx hAt H2 hwle hk2
     have HSe:Hid (Secs (w1.alloc (.cells #[] 23)) w.heap.size P L):=Lib.hid (HSc.out.below (HB1.out.trans (HBe.out.mono HB1.out.size)))
     go_wp2_with (first
      | (at_builtin;refine step_append_parts rfl (.tmp 34) (.tmp 35) rfl rfl HOwn0.out rfl HK.out HPn.out HSe.out HWle.out k (Nat.zero_add k) (by omega) ?_;intro X1 cx1 w2 hown1 _ hbw1;have HOwn1:=Lib.hid hown1.out;have HB2:=Lib.hid (HBe.out.trans hbw1);have hs2:w1.heap.size≤w2.heap.size:=HB2.out.size;have HSe2:Hid (Secs w2 w.heap.size P L):=Lib.hid (HSc.out.below (HB1.out.trans (HB2.out.mono HB1.out.size)));clear hown1 hbw1)
      | (at_builtin;refine step_append_parts rfl (.tmp 36) (.tmp 37) rfl rfl HOwn1.out rfl HK.out HPn.out HSe2.out hs2 k2 HK2.out (by omega) ?_;intro X2 cx2 w3 hown2 _ hbw2;have HOwn2:Hid (w3.ownsRow w1.heap.size 23 1 (.slice X2 k2 cx2) k2 (pcells (L++L))):=Lib.hid (by rw [pcells_append];exact hown2.out);have HB3:=Lib.hid (HB2.out.trans hbw2);have HNd3:=HNd.out w3 _ X2 k2 cx2 (HB1.out.trans (HB3.out.mono HB1.out.size)) HOwn2.out;clear hown2 hbw2)
      | (go_at_call 10;(with_reducible refine HNd3.out.mono ?_);rintro e w4 ⟨h1,hb4⟩;obtain ⟨v2,rfl,hAt2⟩:=h1 HR2.out;obtain ⟨a2,rfl⟩:=HI.out.ptr hAt2;have HAt2:=Lib.hid hAt2;have HB4:=Lib.hid (HB3.out.trans (hb4.mono HB3.out.size));clear h1 hb4 hAt2))
     have HBw:=Lib.hid (HB1.out.trans (HB4.out.mono HB1.out.size))
     have HA4:=Lib.hid (HI.out.keep HA1.out HB4.out)
     have HC1:=Lib.hid (HI.out.count _ _ S A n ca V w4 HA4.out (by omega) HA.out ((HBy.out.below HBw.out).mono_ HBw.out.size))
     have HXr:Hid ((prW (S++S) n V (S++S).length).length=(prW S n V k).length+(prW S n V k).length∧tmW (S++S) n V (S++S).length=tmW S n V k+tmW S n V k∧plW (S++S) n V (S++S).length=plW S n V k++shP k (plW S n V k)):=Lib.hid (by
      rw [List.length_append]
      have h1:=prW_right (S:=S) (S':=S) (m:=n) (p:=V) S.length
      have h2:=tmW_right (S:=S) (S':=S) (m:=n) (p:=V) S.length
      have h3:=plW_right (S:=S) (S':=S) (m:=n) (p:=V) S.length
      rw [HSk.out] at h1 h2 h3 ⊢
      exact ⟨h1,h2,h3⟩)
     obtain ⟨x,hx⟩:∃x,(prW S n V k).length=x:=⟨_,rfl⟩
     obtain ⟨y,hy⟩:∃y,tmW S n V k=y:=⟨_,rfl⟩
     obtain ⟨D,hD⟩:∃D,plW S n V k=D:=⟨_,rfl⟩
     have hxk:x≤k:=by rw [←hx];exact prW_le S n V k
     have hyk:y≤1100:=by
      rw [←hy]
      have h1:=tmW_le S n V k (by rw [HSk.out];exact Nat.le_refl _)
      have h2:=lenT_small (S:=S) (k:=100) (b:=1000) (by rw [HSk.out];exact hk100) HSmall.out.2
      unfold lenT at h2
      rw [HSk.out] at h2
      omega
     have HDy:Hid (D.length=y):=Lib.hid (by rw [←hD,plW_len,hy])
     have HDr:Hid (∀z∈D,0≤z.1∧z.1 < (k:Int)):=Lib.hid fun z hz=>by rw [←hD] at hz;exact plW_room hz
     rw [hx,hy,hD] at HXr
     have HXY:=Lib.hid (And.intro hx (And.intro hy hD))
     obtain ⟨x2,hx2⟩:∃x2,x+x=x2:=⟨_,rfl⟩
     obtain ⟨y2,hy2⟩:∃y2,y+y=y2:=⟨_,rfl⟩
     rw [hx2,hy2] at HXr
     have e1:IntKind.i64.wrap (2*(x:Int))=(x2:Int):=by rw [IntWalk.i64_in _ (by omega)];omega
     have e2:IntKind.i64.wrap (2*(y:Int))=(y2:Int):=by rw [IntWalk.i64_in _ (by omega)];omega
     have b1:((x2:Int) != (x2:Int))=false:=by simp
     have b2:((y2:Int) != (y2:Int))=false:=by simp
     have HY2:=Lib.hid hy2
     clear HOwn0 HOwn1 HOwn2 HSe HSe2 HNd HNd3 HWle HBe HB2 HB3 HB4 HB1 HA1 hs2 hx hy hD hx2 hy2
     go_wp2_with fail
     refine HC1.out.mono ?_
     rintro e w5 ⟨h1,_,hb5⟩
     obtain rfl:=h1 HQ.out
     rw [HSk.out,HXY.out.1,HXY.out.2.1]
     have hk1:Below w5.heap.size w5 (w5.alloc (.cells #[.int .i64 (x:Int),.int .i64 (y:Int)] 31)):=(Below.refl _ _).alloc (Nat.le_refl _) _
     have hl1:=lies_new w5 31 [.int .i64 (x:Int),.int .i64 (y:Int)]
     have hbk:=hb5.trans (hk1.mono hb5.size)
     have HB6:=Lib.hid (HBw.out.trans (hbk.mono HBw.out.size))
     have HL6:=Lib.hid hl1
     have HA6:=Lib.hid (HI.out.keep HA4.out hbk)
     have HD6:=Lib.hid (HI.out.keep HAt2.out hbk)
     have HC2:=Lib.hid (HI.out.count _ _ (S++S) A n ca V _ HD6.out (by omega) HA.out ((HBy.out.below HB6.out).mono_ HB6.out.size))
     clear h1 hb5 hk1 hl1 hbk HC1 HBw HA4 HAt2
     go_wp2_with fail
     refine HC2.out.mono ?_
     rintro e w7 ⟨h1,_,hb7⟩
     obtain rfl:=h1 HQ.out
     rw [HXr.out.1,HXr.out.2.1]
     obtain ⟨g1,hg1⟩:∃g,w5.heap.size=g:=⟨_,rfl⟩
     rw [hg1] at HL6 ⊢
     have hk1:Below w7.heap.size w7 (w7.alloc (.cells #[.int .i64 (x2:Int),.int .i64 (y2:Int)] 31)):=(Below.refl _ _).alloc (Nat.le_refl _) _
     have hl1:=lies_new w7 31 [.int .i64 (x2:Int),.int .i64 (y2:Int)]
     have hbk:=hb7.trans (hk1.mono hb7.size)
     have HB8:=Lib.hid (HB6.out.trans (hbk.mono HB6.out.size))
     have HL8:=Lib.hid (HL6.out.below hbk HL6.out.lt)
     have HM8:=Lib.hid hl1
     have HA8:=Lib.hid (HI.out.keep HA6.out hbk)
     have HD8:=Lib.hid (HI.out.keep HD6.out hbk)
     have HC3:=Lib.hid (HI.out.places _ _ S A n ca V _ HA8.out (by omega) HA.out ((HBy.out.below HB8.out).mono_ HB8.out.size))
     clear h1 hb7 hk1 hl1 hbk HC2 HB6 HL6 HA6 HD6 hg1
     go_wp2_with fail
     refine HC3.out.mono ?_
     rintro e w9 ⟨h1,_,hb9⟩
     obtain ⟨A9,c9,rfl,hP9⟩:=h1 HQ.out
     rw [HSk.out,HXY.out.2.2] at hP9 ⊢
     rw [HDy.out]
     obtain ⟨g2,hg2⟩:∃g,w7.heap.size=g:=⟨_,rfl⟩
     rw [hg2] at HM8 ⊢
     have HB9:=Lib.hid (HB8.out.trans (hb9.mono HB8.out.size))
     have HL9:=Lib.hid (HL8.out.below hb9 HL8.out.lt)
     have HM9:=Lib.hid (HM8.out.below hb9 HM8.out.lt)
     have HD9:=Lib.hid (HI.out.keep HD8.out hb9)
     have HP9:=Lib.hid hP9
     have HC4:=Lib.hid (HI.out.places _ _ (S++S) A n ca V w9 HD9.out (by omega) HA.out ((HBy.out.below HB9.out).mono_ HB9.out.size))
     clear h1 hb9 hP9 HC3 HB8 HL8 HM8 HA8 HD8 hg2
     go_wp2_with fail
     refine HC4.out.mono ?_
     rintro e w10 ⟨h1,_,hb10⟩
     obtain ⟨A10,c10,rfl,hP10⟩:=h1 HQ.out
     rw [HXr.out.2.2] at hP10 ⊢
     have hl10:(D++shP k D).length=y2:=by rw [List.length_append];unfold shP;rw [List.length_map,HDy.out];exact HY2.out
     rw [hl10]
     have HB10:=Lib.hid (HB9.out.trans (hb10.mono HB9.out.size))
     have HP10:=Lib.hid (HP9.out.below hb10)
     have HQ10:=Lib.hid hP10
     have d0:w10.cell? ⟨g1,0,none⟩=some (.int .i64 (x:Int)):=(HL9.out.below hb10 HL9.out.lt).cell 0
     have d1:w10.cell? ⟨g1,1,none⟩=some (.int .i64 (y:Int)):=(HL9.out.below hb10 HL9.out.lt).cell 1
     have d2:w10.cell? ⟨g2,0,none⟩=some (.int .i64 (x2:Int)):=(HM9.out.below hb10 HM9.out.lt).cell 0
     have d3:w10.cell? ⟨g2,1,none⟩=some (.int .i64 (y2:Int)):=(HM9.out.below hb10 HM9.out.lt).cell 1
     clear h1 hb10 hP10 hl10 HC4 HB9 HL9 HM9 HD9 HP9
     go_wp2_with fail
     clear d0 d1 d2 d3
     go_loopw [94] (fun v wr=>∃i:Nat,i≤y∧v=.int .i64 (i:Int)∧Hid (∃q,wr=w10.drewN q)) (fun v _=>y - (intOf v).toNat)
     case atStart=>exact ⟨0,Nat.zero_le _,rfl,Lib.hid ⟨0,rfl⟩⟩
     case round=>
      obtain ⟨i,hi,rfl,hW⟩:=hrel
      obtain ⟨q0,rfl⟩:=hW.out
      by_cases hlt:i < y
      · have hlti:(i:Int) < (y:Int):=by omega
        obtain ⟨z,hz⟩:∃z,D[i]?=some z:=⟨_,List.getElem?_eq_getElem (by rw [HDy.out];exact hlt)⟩
        have hz1:(D++shP k D)[i]?=some z:=by rw [List.getElem?_append_left (by rw [HDy.out];exact hlt)];exact hz
        have hz2:(D++shP k D)[y+i]?=some (z.1+(k:Int),z.2):=by
         rw [List.getElem?_append_right (by rw [HDy.out];omega),HDy.out,Nat.add_sub_cancel_left]
         unfold shP
         rw [List.getElem?_map,hz]
         rfl
        have hzr:=HDr.out z (List.mem_of_getElem? hz)
        obtain ⟨g,o,rfl,_,c1',c2',_⟩:=HP10.out.2 i z hz
        obtain ⟨g',o',rfl,_,c3',c4',_⟩:=HQ10.out.2 i z hz1
        obtain ⟨g'',o'',e'',_,c5',c6',_⟩:=HQ10.out.2 (y+i) _ hz2
        cases e''
        obtain ⟨z1,z2⟩:=z
        obtain ⟨j,hj⟩:∃j,y+i=j:=⟨_,rfl⟩
        rw [hj] at c5' c6'
        have c1:∀q,(w10.drewN q).cell? ⟨g,o+i*2,none⟩=some (.int .i64 z1):=fun q=>c1'
        have c2:∀q,(w10.drewN q).cell? ⟨g,o+i*2+1,none⟩=some (.int .i64 (z2:Int)):=fun q=>c2'
        have c3:∀q,(w10.drewN q).cell? ⟨g',o'+i*2,none⟩=some (.int .i64 z1):=fun q=>c3'
        have c4:∀q,(w10.drewN q).cell? ⟨g',o'+i*2+1,none⟩=some (.int .i64 (z2:Int)):=fun q=>c4'
        have c5:∀q,(w10.drewN q).cell? ⟨g',o'+j*2,none⟩=some (.int .i64 (z1+(k:Int))):=fun q=>c5'
        have c6:∀q,(w10.drewN q).cell? ⟨g',o'+j*2+1,none⟩=some (.int .i64 (z2:Int)):=fun q=>c6'
        replace hzr:0≤z1∧z1 < (k:Int):=hzr
        have y2y:y+y=y2:=HY2.out
        have f1:IntKind.i64.wrap ((y:Int)+(i:Int))=(j:Int):=by rw [IntWalk.i64_in _ (by omega)];omega
        obtain ⟨zk,hzk⟩:∃zk,z1+(k:Int)=zk:=⟨_,rfl⟩
        have f2:IntKind.i64.wrap (z1+(k:Int))=zk:=by rw [IntWalk.i64_in _ (by omega)];exact hzk
        rw [hzk] at c5
        have l1:(i:Int) < (y2:Int):=by omega
        have l2:(j:Int) < (y2:Int):=by omega
        have l3:i < y2:=by omega
        have l4:j < y2:=by omega
        have r1:(zk != zk)=false:=by simp
        have r2:((z2:Int) != (z2:Int))=false:=by simp
        clear hz hz1 hz2 c1' c2' c3' c4' c5' c6' hj hzk hzr y2y hW
        go_wp2_with fail
        go_quiet (fail)
        go_wp2_with fail
        go_roundw
        case rel=>exact ⟨i+1,by omega,by go_num,Lib.hid ⟨_,rfl⟩⟩
        case measure=>simp [intOf];omega
      · obtain rfl:i=y:=by omega
        have hge:¬(i:Int) < (i:Int):=by omega
        have HBz:=Lib.hid (below_drewN' HB10.out q0)
        go_wp2_with fail
        go_ret
        exact ⟨rfl,HBz.out⟩
   · rw [decide_eq_false (show ¬(1≤n∧n≤256) from hq)] at HRq
     clear HF HSm HRg hsm HNw
     go_wp2_with fail
     refine H1.out.mono ?_
     rintro e w' ⟨rfl,rfl⟩
     go_wp2_with fail
     refine HRq.out.mono ?_
     rintro e wq ⟨rfl,hbq⟩
     have hb1:=hb0.trans (hbq.mono hb0.size)
     go_wp2_with fail
     go_ret
     exact ⟨rfl,hb1⟩
 · rw [decide_eq_false hsm] at H1
   clear HF HSm HNw hsm
   go_wp2_with fail
   refine H1.out.mono ?_
   rintro e w' ⟨rfl,rfl⟩
   go_wp2_with fail
   go_ret
   exact ⟨rfl,hb0⟩
end
end Go.Proofs.YtcidobpbepeakaaGreat
