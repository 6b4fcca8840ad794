/- Texts of ours, joined: IxAgrees. -/
import Derived.Test.YtcidobpbepeakaaGreatB23
import Derived.RegionTactic
import Derived.Deep.RegionHeld3
set_option maxRecDepth 1000000
set_option maxHeartbeats 6400000
namespace Go.Proofs.YtcidobpbepeakaaGreat
open Go.RowKit
section
variable {At:Nat→World→Value→List Sec→Prop}
theorem RkOf.perm {E R:List (Int×Nat)} (h:RkOf E R) (hE:E.Pairwise (fun d e=>d.1 < e.1)):R.Perm E:=by
 have h1:R.Nodup:=h.rise.imp fun {a b} hab e=>by
  subst e
  exact hab.no
 have h2:E.Nodup:=hE.imp fun {a b} hab e=>by
  subst e
  omega
 exact (List.perm_ext_iff_of_nodup h1 h2).2 h.mem
theorem RkOf.sum {E R:List (Int×Nat)} (h:RkOf E R) (hE:E.Pairwise (fun d e=>d.1 < e.1)):sumP R R.length=(E.map Prod.snd).sum:=by
 unfold sumP
 rw [List.take_length]
 exact ((h.perm hE).map Prod.snd).sum_nat
theorem sumP_le {R:List (Int×Nat)} {i j:Nat} (h:i≤j):sumP R i≤sumP R j:=by
 unfold sumP
 rw [show R.take i=(R.take j).take i by rw [List.take_take,Nat.min_eq_left h]]
 obtain ⟨l,hl⟩:∃l,R.take j=l:=⟨_,rfl⟩
 rw [hl]
 have e:=List.take_append_drop i l
 have:(l.map Prod.snd).sum=((l.take i).map Prod.snd).sum+((l.drop i).map Prod.snd).sum:=by
  rw [←List.sum_append,←List.map_append,e]
 omega
def inD (D:List (Int×Nat)) (d:Int) (j:Nat):Nat:=(D.take j).countP fun z=>decide (z.1=d)
theorem inD_hit {D:List (Int×Nat)} {d:Int} {j:Nat} {z:Int×Nat} (h:D[j]?=some z) (e:z.1=d):inD D d (j+1)=inD D d j+1:=by
 unfold inD
 rw [List.take_add_one,h,List.countP_append]
 simp [e]
theorem inD_miss {D:List (Int×Nat)} {d:Int} {j:Nat} {z:Int×Nat} (h:D[j]?=some z) (e:¬z.1=d):inD D d (j+1)=inD D d j:=by
 unfold inD
 rw [List.take_add_one,h,List.countP_append]
 simp [e]
theorem inD_le (D:List (Int×Nat)) (d:Int) (j:Nat):inD D d j≤j:=by
 unfold inD
 have h1:=List.countP_le_length (p:=fun z:Int×Nat=>decide (z.1=d)) (l:=D.take j)
 rw [List.length_take] at h1
 omega
theorem inD_all {S:List Sec} {m:Nat} {p:Nat→Nat} {k:Nat} {y:Int×Nat} (h:y∈prW S m p k):inD (plW S m p k) y.1 (plW S m p k).length=y.2:=by
 obtain ⟨d,h1,_,rfl⟩:=mem_prW.1 h
 unfold inD
 rw [List.take_length,plW_doc,if_pos h1]
theorem ixAgrees_walk (I:IdxI At) (P:Option Addr) (c:Nat) (L:List Part) (A:Option Addr) (n ca:Nat) (V:Nat→Nat) (K:Int) (w:World) (hK:(Lit.int .i64 K).wf=true) (hl:L.length≤c) (hcm:c≤maxLen) (hP:P=none→L=[]∧c=0) (ho:Secs w w.heap.size P L) (hn:n≤maxLen) (hA:A=none→n=0∧ca=0) (hby:Bys w w.heap.size A n V):
    Calls Tryz.prog 6 #[.slice P L.length c,.slice A n ca,.int .i64 K] w fun e w'=>e=.returned (.bool true)∧Below w.heap.size w w':=by
 have HI:=Lib.hid I
 have HBy:=Lib.hid hby
 have HA:=Lib.hid hA
 have hnl:n≤9223372036854775807:=by unfold maxLen at hn;omega
 have hKm:=i64_in hK
 have HF:=Lib.hid (ixfirst_any I w)
 have HSm:Hid (∀W,Below w.heap.size w W→Hid (Calls Tryz.prog 9 #[.slice P L.length c,.int .i64 3000,.int .i64 256] W fun e w'=>e=.returned (.bool (decide (L.length≤256∧bytesT (docsP L)≤3000)))∧W=w')):=Lib.hid fun W hW=>Lib.hid (refSmall_any P c L w.heap.size 3000 256 W (by omega) (by decide) (by decide) (ho.below hW))
 have HNw:Hid (∀W,Below w.heap.size w W→Hid (Calls Tryz.prog 10 #[.slice P L.length c] W fun e w'=>(RightT (docsP L)→∃v,e=.returned (.tuple #[v,.int .i64 0])∧At W.heap.size w' v (docsP L))∧(¬RightT (docsP L)→e=.returned (.tuple #[.pointer none,.int .i64 80]))∧Below W.heap.size W w')):=Lib.hid fun W hW=>Lib.hid (I.build P c L W hl hcm hP ((ho.below hW).mono_ hW.size))
 have HRg:Hid (∀W,Below w.heap.size w W→Hid (Calls Tryz.prog 13 #[.slice A n ca] W fun e w'=>e=.returned (.bool (decide (1≤n∧n≤256)))∧Below W.heap.size W w')):=Lib.hid fun W hW=>Lib.hid (I.right A n ca V W hn hA ((hby.below hW).mono_ hW.size))
 obtain ⟨k,hk⟩:∃k,L.length=k:=⟨_,rfl⟩
 obtain ⟨S,hS⟩:∃S,docsP L=S:=⟨_,rfl⟩
 have hSk:S.length=k:=by rw [←hS,docsP_length,hk]
 rw [hk,hS] at HSm HNw
 rw [hk]
 have HSk:=Lib.hid hSk
 clear I ho hl hcm hP hk hS hSk hby hA hn hK
 go_enter Tryz.func6,Tryz.ntmps6
 go_wp2_with fail
 refine HF.out.mono ?_
 rintro e w0 ⟨rfl,hb0⟩
 have H1:=HSm.out w0 hb0
 by_cases hsm:k≤256∧bytesT S≤3000
 · rw [decide_eq_true hsm] at H1
   have HRq:=HRg.out w0 hb0
   have HR:Hid (RightT S):=Lib.hid ⟨by rw [HSk.out];exact hsm.1,by omega⟩
   have hk256:=hsm.1
   have HSmall:=Lib.hid hsm
   by_cases hq:RightQ n
   · have HQ:=Lib.hid hq
     rw [decide_eq_true (show 1≤n∧n≤256 from hq)] at HRq
     obtain ⟨hq1,hq2⟩:=hq
     have HNw0:=HNw
     clear HF HSm HRg hsm HNw
     go_wp2_with fail
     refine H1.out.mono ?_
     rintro e w' ⟨rfl,rfl⟩
     go_wp2_with fail
     refine HRq.out.mono ?_
     rintro e wq ⟨rfl,hbq⟩
     have hb1:=hb0.trans (hbq.mono hb0.size)
     have H2:=HNw0.out wq hb1
     clear HNw0 HRq H1 hb0 hbq
     go_wp2_with fail
     refine H2.out.mono ?_
     rintro e w1 ⟨h1,_,hbx⟩
     obtain ⟨v,rfl,hAt⟩:=h1 HR.out
     obtain ⟨a,rfl⟩:=HI.out.ptr hAt
     have HB1:=Lib.hid (hb1.trans (hbx.mono hb1.size))
     have HA1:=Lib.hid hAt
     have HC:=Lib.hid (HI.out.count _ _ S A n ca V w1 hAt (by omega) HA.out ((HBy.out.below HB1.out).mono_ HB1.out.size))
     clear h1 hb1 hbx hAt H2
     go_wp2_with fail
     refine HC.out.mono ?_
     rintro e w2 ⟨h1,_,hb2⟩
     obtain rfl:=h1 HQ.out
     rw [HSk.out]
     obtain ⟨x,hx⟩:∃x,(prW S n V k).length=x:=⟨_,rfl⟩
     obtain ⟨y,hy⟩:∃y,tmW S n V k=y:=⟨_,rfl⟩
     have hxk:x≤k:=by rw [←hx];exact prW_le S n V k
     have hyk:y≤4000:=by
      rw [←hy]
      have h1:=tmW_le S n V k (by rw [HSk.out];exact Nat.le_refl _)
      have h2:=lenT_small (S:=S) (k:=256) (b:=3000) (by rw [HSk.out];exact hk256) HSmall.out.2
      unfold lenT at h2
      rw [HSk.out] at h2
      omega
     rw [hx,hy]
     have HXY:=Lib.hid (And.intro hx hy)
     have hk1:Below w2.heap.size w2 (w2.alloc (.cells #[.int .i64 (x:Int),.int .i64 (y:Int)] 31)):=(Below.refl _ _).alloc (Nat.le_refl _) _
     have hl1:=lies_new w2 31 [.int .i64 (x:Int),.int .i64 (y:Int)]
     have hbk:=hb2.trans (hk1.mono hb2.size)
     have HB2:=Lib.hid (HB1.out.trans (hbk.mono HB1.out.size))
     have HL2:=Lib.hid hl1
     have HA2:=Lib.hid (HI.out.keep HA1.out hbk)
     have HCl:=Lib.hid (HI.out.list _ _ S A n ca V _ HA2.out (by omega) HA.out ((HBy.out.below HB2.out).mono_ HB2.out.size))
     clear h1 hb2 hk1 hl1 hbk HB1 HA1 HC hx hy
     go_wp2_with fail
     refine HCl.out.mono ?_
     rintro e w3 ⟨h1,_,hb3⟩
     obtain ⟨A3,c3,rfl,_⟩:=h1 HQ.out
     have hd3:(dcW S n V k).length=x:=by rw [dcW_len];exact HXY.out.1
     rw [HSk.out,hd3]
     have HB3:=Lib.hid (HB2.out.trans (hb3.mono HB2.out.size))
     have HL3:=Lib.hid (HL2.out.below hb3 HL2.out.lt)
     have HA3:=Lib.hid (HI.out.keep HA2.out hb3)
     obtain ⟨gt,hgt⟩:∃g,w2.heap.size=g:=⟨_,rfl⟩
     rw [hgt] at HL3 ⊢
     have HCt:=Lib.hid (HI.out.top _ _ S A n ca V 300 w3 HA3.out (by omega) HA.out ((HBy.out.below HB3.out).mono_ HB3.out.size) (by decide))
     clear h1 hb3 hgt HCl HB2 HL2 hd3 HA2
     go_wp2_with fail
     refine HCt.out.mono ?_
     rintro e w4 ⟨h1,_,hb4⟩
     obtain ⟨A4,c4,R,T4,rfl,⟨hc41,hc42⟩,hR4,hT4,hP4⟩:=h1 ⟨HQ.out,by decide⟩
     rw [HSk.out] at hR4
     have hRx:R.length=x:=by rw [hR4.len];exact HXY.out.1
     have hTR:T4=R:=by rw [hT4];exact List.take_of_length_le (by rw [hRx];show x≤300;omega)
     clear hT4
     subst hTR
     have HB4:=Lib.hid (HB3.out.trans (hb4.mono HB3.out.size))
     have HL4:=Lib.hid (HL3.out.below hb4 HL3.out.lt)
     have HA4:=Lib.hid (HI.out.keep HA3.out hb4)
     have HP4:=Lib.hid hP4
     have HR4:=Lib.hid hR4
     have HCp:=Lib.hid (HI.out.places _ _ S A n ca V w4 HA4.out (by omega) HA.out ((HBy.out.below HB4.out).mono_ HB4.out.size))
     rw [hRx] at hc41 ⊢
     have HRx:=Lib.hid hRx
     have hc4m:c4≤9223372036854775807:=by unfold maxLen at hc42;omega
     clear h1 hb4 hP4 hR4 HCt HB3 HL3 HA3 hRx hc42
     go_wp2_with fail
     refine HCp.out.mono ?_
     rintro e w5 ⟨h1,_,hb5⟩
     obtain ⟨A5,c5,rfl,hP5⟩:=h1 HQ.out
     rw [HSk.out] at hP5 ⊢
     have hDy:(plW S n V k).length=y:=by rw [plW_len];exact HXY.out.2
     rw [hDy]
     have HB5:=Lib.hid (HB4.out.trans (hb5.mono HB4.out.size))
     have HL5:=Lib.hid (HL4.out.below hb5 HL4.out.lt)
     have HA5:=Lib.hid (HI.out.keep HA4.out hb5)
     have HP5:=Lib.hid hP5
     have HP6:=Lib.hid (HP4.out.below hb5)
     have HDy:=Lib.hid hDy
     clear h1 hb5 hP5 HCp HB4 HL4 HA4 HP4 hDy
     obtain ⟨kk,hkk,hkk20⟩:=turn_w K 20 (by decide) (by decide)
     have hkk3:wrap64 ((IntKind.u64.wrap K).tmod 20)=(kk:Int):=hkk
     obtain ⟨M,hM⟩:∃M,kk+1=M:=⟨_,rfl⟩
     have hkk4:IntKind.i64.wrap (1+(kk:Int))=(M:Int):=by rw [IntWalk.i64_in _ (by omega)];omega
     have HKK:=Lib.hid hkk3
     clear hkk
     have HCu:=Lib.hid (HI.out.top _ _ S A n ca V (M:Int) w5 HA5.out (by omega) HA.out ((HBy.out.below HB5.out).mono_ HB5.out.size) (wf_nat (by omega)))
     have hM1:1≤M:=by omega
     have hM20:M≤20:=by omega
     clear hM hkk20
     go_wp2_with fail
     refine HCu.out.mono ?_
     rintro e w6 ⟨h1,_,hb6⟩
     obtain ⟨A6,c6,R6,T6,rfl,_,hR6,hT6,hP6⟩:=h1 ⟨HQ.out,by omega⟩
     rw [HSk.out] at hR6
     have hRR:R6=T4:=hR6.one HR4.out
     rw [hRR,Int.toNat_natCast] at hT6
     have hTl:T6.length=min M x:=by rw [hT6,List.length_take,HRx.out]
     obtain ⟨q,hq⟩:∃q,min M x=q:=⟨_,rfl⟩
     rw [hq] at hTl
     have HQm:=Lib.hid hq
     have hqx:q≤x:=by omega
     have hqc:q≤c4:=by omega
     have hqx2:(q:Int)≤(x:Int):=by omega
     have hqc2:(q:Int)≤(c4:Int):=by omega
     have HB6:=Lib.hid (HB5.out.trans (hb6.mono HB5.out.size))
     have HL6:=Lib.hid (HL5.out.below hb6 HL5.out.lt)
     have HPt:=Lib.hid (HP6.out.below hb6)
     have HPp:=Lib.hid (HP5.out.below hb6)
     have HSa:Hid (Calls Tryz.prog 18 #[.slice A6 q c6,.slice A4 q c4] w6 fun e w'=>e=.returned (.bool true)∧Below w6.heap.size w6 w'):=Lib.hid (by
      have h:=refSameP_any A6 A4 c6 c4 T6 w6 hP6 (by rw [hT6];exact HPt.out.take M)
      rwa [hTl] at h)
     rw [hTl]
     have d0:w6.cell? ⟨gt,0,none⟩=some (.int .i64 (x:Int)):=HL6.out.cell 0
     have d1:w6.cell? ⟨gt,1,none⟩=some (.int .i64 (y:Int)):=HL6.out.cell 1
     have r1:((x:Int) != (x:Int))=false:=by simp
     have r2:((y:Int) != (y:Int))=false:=by simp
     clear h1 hb6 hR6 hRR hT6 hP6 hTl hq HCu HB5 HL5 HA5 HP5 HP6 hkk3 hkk4
     go_upto_region 12 with (fail)
     go_cut [106] (fun s wx=>s=.bool false∧Hid (Below w6.heap.size w6 wx))
     case first=>
      by_cases hxm:x < M
      · have hxmI:(x:Int) < (M:Int):=by omega
        obtain rfl:q=x:=by have:=HQm.out;omega
        clear HQm
        go_wp2_with fail
        refine HSa.out.mono ?_
        rintro e w7 ⟨rfl,hb7⟩
        have HB7:=Lib.hid hb7
        clear hb7
        go_wp2_with fail
        go_meet
        exact ⟨rfl,HB7⟩
      · have hxmI:¬(x:Int) < (M:Int):=by omega
        obtain rfl:q=M:=by have:=HQm.out;omega
        clear HQm
        go_wp2_with fail
        refine HSa.out.mono ?_
        rintro e w7 ⟨rfl,hb7⟩
        have HB7:=Lib.hid hb7
        clear hb7
        go_wp2_with fail
        go_meet
        exact ⟨rfl,HB7⟩
     case rest=>
     obtain ⟨rfl,HB7⟩:=hcut
     rename World=>w7
     clear HSa HQm hqx hqc hqx2 hqc2 d0 d1
     have HBx:=Lib.hid (HB6.out.trans (HB7.out.mono HB6.out.size))
     have HL7:=Lib.hid (HL6.out.below HB7.out HL6.out.lt)
     have HT7:=Lib.hid (HPt.out.below HB7.out)
     have HP7:=Lib.hid (HPp.out.below HB7.out)
     have HSu:Hid (sumP T4 x=y):=Lib.hid (by
      have h:=HR4.out.sum (prW_rise S n V k)
      rw [HRx.out,prW_sum,HXY.out.2] at h
      exact h)
     have HIn:Hid (∀z∈T4,inD (plW S n V k) z.1 y=z.2):=Lib.hid fun z hz=>by
      have h:=inD_all ((HR4.out.mem z).1 hz)
      rwa [HDy.out] at h
     obtain ⟨D,hD⟩:∃D,plW S n V k=D:=⟨_,rfl⟩
     rw [hD] at HP7 HIn HDy
     obtain ⟨lo,hlo⟩:∃lo,w7.heap.size=lo:=⟨_,rfl⟩
     have HLo:=Lib.hid hlo
     clear HB6 HL6 HPt HPp HB7 HR4 hlo hD
     go_wp2_with fail
     go_loopw [20,109] (fun u v wr=>∃i:Nat,i≤x∧u=.int .i64 ((sumP T4 i:Nat):Int)∧v=.int .i64 (i:Int)∧Hid (Below lo w7 wr)) (fun _ v _=>x - (intOf v).toNat)
     case atStart=>exact ⟨0,Nat.zero_le _,rfl,rfl,Lib.hid (by rw [←HLo.out];exact Below.refl _ _)⟩
     case round=>
      obtain ⟨i,hi,rfl,rfl,hB⟩:=hrel
      have hBr:Below w7.heap.size w7 wr:=by rw [HLo.out];exact hB.out
      by_cases hlt:i < x
      · have hlti:(i:Int) < (x:Int):=by omega
        obtain ⟨d,hd⟩:∃d,T4[i]?=some d:=⟨_,List.getElem?_eq_getElem (by rw [HRx.out];exact hlt)⟩
        obtain ⟨g,o,rfl,_,c1',c2',_⟩:=(HT7.out.below hBr).2 i d hd
        have hin:=HIn.out d (List.mem_of_getElem? hd)
        have hsum:=sumP_succ hd
        have hsm2:sumP T4 (i+1)≤y:=by rw [←HSu.out];exact sumP_le (by omega)
        obtain ⟨s,t⟩:=d
        have c1:wr.cell? ⟨g,o+i*2,none⟩=some (.int .i64 s):=c1'
        have c2:wr.cell? ⟨g,o+i*2+1,none⟩=some (.int .i64 (t:Int)):=c2'
        replace hin:inD D s y=t:=hin
        replace hsum:sumP T4 (i+1)=sumP T4 i+t:=hsum
        have w1:IntKind.i64.wrap (((sumP T4 i:Nat):Int)+(t:Int))=((sumP T4 (i+1):Nat):Int):=by rw [hsum,IntWalk.i64_in _ (by omega)];omega
        have HIn2:=Lib.hid hin
        obtain ⟨gy,hgy⟩:∃gy,wr.heap.size=gy:=⟨_,rfl⟩
        obtain ⟨wy,hwy⟩:∃wy,wr.alloc (.cells #[.int .i64 s,.int .i64 (t:Int)] 60)=wy:=⟨_,rfl⟩
        have ly:Lies wy gy 60 [.int .i64 s,.int .i64 (t:Int)]:=by rw [←hwy,←hgy];exact lies_new wr _ _
        have ky:Below wr.heap.size wr wy:=by rw [←hwy];exact (Below.refl _ _).alloc (Nat.le_refl _) _
        have e1:wy.cell? ⟨gy,1,none⟩=some (.int .i64 (t:Int)):=ly.cell 1
        have hBy2:Below w7.heap.size w7 wy:=hBr.trans (ky.mono hBr.size)
        have HBy2:=Lib.hid hBy2
        have HLy:=Lib.hid ly
        have hgs:gy < wy.heap.size:=ly.lt
        have HPy:=Lib.hid (HP7.out.below hBy2)
        generalize sumP T4 i=s0 at*
        obtain ⟨s1,hs1⟩:∃s1,sumP T4 (i+1)=s1:=⟨_,rfl⟩
        rw [hs1] at w1
        have HS1:=Lib.hid hs1
        clear hd c1' c2' hin hsum hsm2 hB hBr hBy2 ly ky hs1
        go_wp2_with fail
        go_loopw [23,119] (fun u v wi=>∃j:Nat,j≤y∧u=.int .i64 ((inD D s j:Nat):Int)∧v=.int .i64 (j:Int)∧Hid (Below wy.heap.size wy wi)) (fun _ v _=>y - (intOf v).toNat)
        case atStart=>exact ⟨0,Nat.zero_le _,rfl,rfl,Lib.hid (Below.refl _ _)⟩
        case round=>
         obtain ⟨j,hj,rfl,rfl,hBi⟩:=hrel
         rename World=>wi
         have hgs2:gy < wi.heap.size:=Nat.lt_of_lt_of_le hgs hBi.out.size
         have e0:wi.cell? ⟨gy,0,none⟩=some (.int .i64 s):=(HLy.out.below hBi.out hgs).cell 0
         have e1:wi.cell? ⟨gy,1,none⟩=some (.int .i64 (t:Int)):=(HLy.out.below hBi.out hgs).cell 1
         by_cases hltj:j < y
         · have hltji:(j:Int) < (y:Int):=by omega
           obtain ⟨z,hz⟩:∃z,D[j]?=some z:=⟨_,List.getElem?_eq_getElem (by rw [HDy.out];exact hltj)⟩
           obtain ⟨g5,o5,e5,_,f1',f2',_⟩:=(HPy.out.below hBi.out).2 j z hz
           have hle:=inD_le D s j
           have HHit:Hid (z.1=s→inD D s (j+1)=inD D s j+1):=Lib.hid (inD_hit hz)
           have HMiss:Hid (¬z.1=s→inD D s (j+1)=inD D s j):=Lib.hid (inD_miss hz)
           obtain ⟨z1,z2⟩:=z
           have f1:wi.cell? ⟨g5,o5+j*2,none⟩=some (.int .i64 z1):=f1'
           have f2:wi.cell? ⟨g5,o5+j*2+1,none⟩=some (.int .i64 (z2:Int)):=f2'
           replace HHit:Hid (z1=s→inD D s (j+1)=inD D s j+1):=HHit
           replace HMiss:Hid (¬z1=s→inD D s (j+1)=inD D s j):=HMiss
           obtain ⟨gz,hgz⟩:∃gz,wi.heap.size=gz:=⟨_,rfl⟩
           obtain ⟨wz,hwz⟩:∃wz,wi.alloc (.cells #[.int .i64 z1,.int .i64 (z2:Int)] 62)=wz:=⟨_,rfl⟩
           have lz:Lies wz gz 62 [.int .i64 z1,.int .i64 (z2:Int)]:=by rw [←hwz,←hgz];exact lies_new wi _ _
           have kz:Below wi.heap.size wi wz:=by rw [←hwz];exact (Below.refl _ _).alloc (Nat.le_refl _) _
           have z0:wz.cell? ⟨gz,0,none⟩=some (.int .i64 z1):=lz.cell 0
           have e0':wz.cell? ⟨gy,0,none⟩=some (.int .i64 s):=(kz.cell (p:=⟨gy,0,none⟩) hgs2).trans e0
           have HBz:=Lib.hid (hBi.out.trans (kz.mono hBi.out.size))
           subst e5
           by_cases hzs:z1=s
           · have HN:=Lib.hid (HHit.out hzs)
             have b1:(z1==s)=true:=by rw [beq_iff_eq];exact hzs
             have w2:IntKind.i64.wrap (((inD D s j:Nat):Int)+1)=((inD D s j+1:Nat):Int):=by rw [IntWalk.i64_in _ (by omega)];omega
             subst hzs
             clear hz f1' f2' HHit HMiss lz kz hBi e0 e1
             go_wp2_with fail
             go_roundw
             case rel=>exact ⟨j+1,by omega,by rw [HN.out];go_num,by go_num,HBz⟩
             case measure=>simp [intOf];omega
           · have HN:=Lib.hid (HMiss.out hzs)
             have b1:(z1==s)=false:=by rw [beq_eq_false_iff_ne];exact hzs
             clear hz f1' f2' HHit HMiss lz kz hBi e0 e1
             go_wp2_with fail
             go_roundw
             case rel=>exact ⟨j+1,by omega,by rw [HN.out],by go_num,HBz⟩
             case measure=>simp [intOf];omega
         · obtain rfl:j=y:=by omega
           have hge:¬(j:Int) < (j:Int):=by omega
           have r3:((t:Int) != (t:Int))=false:=by simp
           have HBo:Hid (Below lo w7 wi):=Lib.hid (by rw [←HLo.out];exact HBy2.out.trans (hBi.out.mono HBy2.out.size))
           rw [HIn2.out]
           clear hBi
           go_wp2_with fail
           go_roundw
           case rel=>exact ⟨i+1,by omega,by rw [HS1.out],by go_num,HBo⟩
           case measure=>simp [intOf];omega
      · obtain rfl:i=x:=by omega
        have hge:¬(i:Int) < (i:Int):=by omega
        have d1:wr.cell? ⟨gt,1,none⟩=some (.int .i64 (y:Int)):=(HL7.out.below hBr HL7.out.lt).cell 1
        have HBz:=Lib.hid (HBx.out.trans (hBr.mono HBx.out.size))
        rw [HSu.out]
        clear hBr hB
        go_wp2_with fail
        go_ret
        exact ⟨rfl,HBz.out⟩
   · rw [decide_eq_false (show ¬(1≤n∧n≤256) from hq)] at HRq
     clear HF HSm HRg hsm HNw
     go_wp2_with fail
     refine H1.out.mono ?_
     rintro e w' ⟨rfl,rfl⟩
     go_wp2_with fail
     refine HRq.out.mono ?_
     rintro e wq ⟨rfl,hbq⟩
     have hb1:=hb0.trans (hbq.mono hb0.size)
     go_wp2_with fail
     go_ret
     exact ⟨rfl,hb1⟩
 · rw [decide_eq_false hsm] at H1
   clear HF HSm HNw hsm
   go_wp2_with fail
   refine H1.out.mono ?_
   rintro e w' ⟨rfl,rfl⟩
   go_wp2_with fail
   go_ret
   exact ⟨rfl,hb0⟩
end
end Go.Proofs.YtcidobpbepeakaaGreat
