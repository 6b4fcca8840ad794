/- Texts of ours, joined: IxPlaces. -/
import Derived.Test.YtcidobpbepeakaaGreatB22
import Derived.RegionTactic
import Derived.Deep.RegionHeld3
set_option maxRecDepth 1000000
set_option maxHeartbeats 6400000
namespace Go.Proofs.YtcidobpbepeakaaGreat
open Go.RowKit
section
variable {At:Nat→World→Value→List Sec→Prop}
theorem rng_many {S:List Sec} (hS:∀x∈S,∀k,k < x.n→x.V k < 256) {m:Nat} {p:Nat→Nat} (hm:0 < m) (hp:∀k,k < m→p k < 256) {s:Nat→Nat} (hs:IsSA (symI S) (lenT S) s):
    (rngF (fun i=>stB (symI S) (lenT S) (patI S.length p) m (s i)) (lenT S)).2 - (rngF (fun i=>stB (symI S) (lenT S) (patI S.length p) m (s i)) (lenT S)).1=(plW S m p S.length).length:=by
 rw [rngF_places hs hm,plsF_cnt _ _ _ hm,plW_len]
 exact cnt_occ hS hp S.length (Nat.le_refl _)
theorem PlsR.of_own {w:World} {B:Nat} {v:Value} {D:List (Int×Nat)} (h:w.ownsRow B 62 2 v D.length (prcells D)) (hl:D.length≤4194304) (hm:∀d∈D,d.2≤4194304):∃A c,v=.slice A D.length c∧PrsR w A D:=by
 rcases owns_slice2 h with ⟨h0,e⟩ | ⟨g,c,e,_,hg⟩
 · have:D=[]:=List.length_eq_zero_iff.1 h0
   subst this
   exact ⟨none,0,e,hl,fun i d hd=>by cases hd⟩
 · subst e
   refine ⟨_,c,rfl,hl,fun i d hd=>⟨g,0,rfl,hg,?_,?_,hm d (List.mem_of_getElem? hd)⟩⟩
   · have h2:=h.cells rfl (i*2) _ (prcells_at hd).1
     rw [Addr.add_mid,Nat.zero_add] at h2
     rw [Nat.zero_add]
     exact h2
   · have h2:=h.cells rfl (i*2+1) _ (prcells_at hd).2
     rw [Addr.add_mid,Nat.zero_add] at h2
     rw [Nat.zero_add]
     exact h2
theorem ixPlaces_walk (I:IdxI At) (P:Option Addr) (c:Nat) (L:List Part) (A:Option Addr) (n ca:Nat) (V:Nat→Nat) (w:World) (hl:L.length≤c) (hcm:c≤maxLen) (hP:P=none→L=[]∧c=0) (ho:Secs w w.heap.size P L) (hn:n≤maxLen) (hA:A=none→n=0∧ca=0) (hby:Bys w w.heap.size A n V):
    Calls Tryz.prog 5 #[.slice P L.length c,.slice A n ca] w fun e w'=>e=.returned (.bool true)∧Below w.heap.size w w':=by
 have HI:=Lib.hid I
 have HBy:=Lib.hid hby
 have HA:=Lib.hid hA
 have hnl:n≤9223372036854775807:=by unfold maxLen at hn;omega
 have HF:=Lib.hid (ixfirst_any I w)
 have HSm:Hid (∀W,Below w.heap.size w W→Hid (Calls Tryz.prog 9 #[.slice P L.length c,.int .i64 300,.int .i64 256] W fun e w'=>e=.returned (.bool (decide (L.length≤256∧bytesT (docsP L)≤300)))∧W=w')):=Lib.hid fun W hW=>Lib.hid (refSmall_any P c L w.heap.size 300 256 W (by omega) (by decide) (by decide) (ho.below hW))
 have HNw:Hid (∀W,Below w.heap.size w W→Hid (Calls Tryz.prog 10 #[.slice P L.length c] W fun e w'=>(RightT (docsP L)→∃v,e=.returned (.tuple #[v,.int .i64 0])∧At W.heap.size w' v (docsP L))∧(¬RightT (docsP L)→e=.returned (.tuple #[.pointer none,.int .i64 80]))∧Below W.heap.size W w')):=Lib.hid fun W hW=>Lib.hid (I.build P c L W hl hcm hP ((ho.below hW).mono_ hW.size))
 have HPl:Hid (L.length≤256→bytesT (docsP L)≤300→0 < n→n≤1000→∀W,Below w.heap.size w W→Hid (Calls Tryz.prog 26 #[.slice P L.length c,.slice A n ca] W fun e w'=>∃u,e=.returned u∧w'.ownsRow W.heap.size 62 2 u (plW (docsP L) n V L.length).length (prcells (plW (docsP L) n V L.length))∧Below W.heap.size W w')):=Lib.hid fun h1 h2 h3 h4 W hW=>Lib.hid (refPlaces19_any P c L A n ca V W (by omega) (by have:=lenT_small (S:=docsP L) (k:=256) (b:=300) (by rw [docsP_length];exact h1) h2;omega) ((ho.below hW).mono_ hW.size) h3 h4 ((hby.below hW).mono_ hW.size))
 have HSy:Hid (L.length≤256→bytesT (docsP L)≤300→∀W,Below w.heap.size w W→Hid (Calls Tryz.prog 22 #[.slice P L.length c] W fun e w'=>∃v,e=.returned v∧w'.ownsRow W.heap.size 3 1 v (lenT (docsP L)) (icells (symI (docsP L)) (lenT (docsP L)))∧Below W.heap.size W w')):=Lib.hid fun h1 h2 W hW=>Lib.hid (refSymbols_any P c L W (by omega) (by have:=lenT_small (S:=docsP L) (k:=256) (b:=300) (by rw [docsP_length];exact h1) h2;omega) ((ho.below hW).mono_ hW.size))
 obtain ⟨k,hk⟩:∃k,L.length=k:=⟨_,rfl⟩
 obtain ⟨S,hS⟩:∃S,docsP L=S:=⟨_,rfl⟩
 have hSk:S.length=k:=by rw [←hS,docsP_length,hk]
 rw [hk,hS] at HSm HNw HPl HSy
 rw [hk]
 have HSk:=Lib.hid hSk
 clear I ho hl hcm hP hk hS hSk hby hA hn
 go_enter Tryz.func5,Tryz.ntmps5
 go_wp2_with fail
 refine HF.out.mono ?_
 rintro e w0 ⟨rfl,hb0⟩
 have H1:=HSm.out w0 hb0
 by_cases hsm:k≤256∧bytesT S≤300
 · rw [decide_eq_true hsm] at H1
   by_cases hn2:400 < n
   · have hd:decide ((400:Int) < (n:Int))=true:=decide_eq_true (by omega)
     have hd2:decide (400 < n)=true:=decide_eq_true hn2
     clear HF HSm HNw hsm
     go_wp2_with fail
     refine H1.out.mono ?_
     rintro e w' ⟨rfl,rfl⟩
     go_wp2_with fail
     go_ret
     exact ⟨rfl,hb0⟩
   have hd:decide ((400:Int) < (n:Int))=false:=decide_eq_false (by omega)
   have hd2:decide (400 < n)=false:=decide_eq_false hn2
   have H2:=HNw.out w0 hb0
   have HR:Hid (RightT S):=Lib.hid ⟨by rw [HSk.out];exact hsm.1,by omega⟩
   have hk256:=hsm.1
   have HSmall:=Lib.hid hsm
   clear HF HSm HNw hsm
   go_wp2_with fail
   refine H1.out.mono ?_
   rintro e w' ⟨rfl,rfl⟩
   go_wp2_with fail
   refine H2.out.mono ?_
   rintro e w1 ⟨h1,_,hb1⟩
   obtain ⟨v,rfl,hAt⟩:=h1 HR.out
   obtain ⟨a,rfl⟩:=HI.out.ptr hAt
   have HB1:=Lib.hid (hb0.trans (hb1.mono hb0.size))
   have HA1:=Lib.hid hAt
   have HSv:=Lib.hid (HI.out.fit hAt).2
   have HC:=Lib.hid (HI.out.places _ _ S A n ca V w1 hAt (by omega) HA.out ((HBy.out.below HB1.out).mono_ HB1.out.size))
   clear h1 hb1 hAt H1 H2 hb0
   by_cases hq:RightQ n
   · have HQ:=Lib.hid hq
     obtain ⟨hq1,hq2⟩:=hq
     have q1:((n:Int)==0)=false:=by rw [beq_eq_false_iff_ne];omega
     have q1':¬(n:Int)=0:=by omega
     have q1'':¬n=0:=by omega
     have q2:decide ((256:Int) < (n:Int))=false:=decide_eq_false (by omega)
     have q2':decide (256 < n)=false:=decide_eq_false (by omega)
     go_wp2_with fail
     refine HC.out.mono ?_
     rintro e w2 ⟨h1,_,hb2⟩
     obtain ⟨A2,c2,rfl,hP2⟩:=h1 HQ.out
     have HB2:=Lib.hid (HB1.out.trans (hb2.mono HB1.out.size))
     have HP2:=Lib.hid hP2
     have HRn:=Lib.hid (HI.out.range_ _ _ S A n ca V w2 (HI.out.keep HA1.out hb2) (by omega) HA.out ((HBy.out.below HB2.out).mono_ HB2.out.size))
     clear h1 hb2 hP2 HC HB1 HA1
     go_wp2_with fail
     refine HRn.out.mono ?_
     rintro e w3 ⟨h1,_,hb3⟩
     obtain ⟨s,hs,rfl⟩:=h1 HQ.out
     have HMany:=Lib.hid (rng_many HSv.out hq1 (fun j hj=>by obtain ⟨_,_,_,_,h⟩:=HBy.out j hj;exact h) hs)
     have hle:=(rngF_le (fun i=>stB (symI S) (lenT S) (patI S.length V) n (s i)) (lenT S))
     have HSs:=Lib.hid hs
     have HB3:=Lib.hid (HB2.out.trans (hb3.mono HB2.out.size))
     have HP3:=Lib.hid (HP2.out.below hb3)
     have H5:=HSy.out HSmall.out.1 HSmall.out.2 w3 HB3.out
     have hN:lenT S≤556:=lenT_small (k:=256) (b:=300) (by rw [HSk.out];exact hk256) HSmall.out.2
     obtain ⟨N,hNe⟩:∃N,lenT S=N:=⟨_,rfl⟩
     have HNe:=Lib.hid hNe
     rw [HSk.out] at HMany hle HP3 ⊢
     rw [hNe] at HMany hle H5 hN HSs ⊢
     have HRg:Hid (∀s2,IsSA (symI S) N s2→rngF (fun i=>stB (symI S) N (patI k V) n (s2 i)) N=rngF (fun i=>stB (symI S) N (patI k V) n (s i)) N):=Lib.hid fun s2 h2=>rngF_congr fun j hj=>by
      show stB _ _ _ _ (s2 j)=stB _ _ _ _ (s j)
      rw [h2.one HSs.out j hj]
     obtain ⟨ra,hra⟩:∃ra,rngF (fun i=>stB (symI S) N (patI k V) n (s i)) N=ra:=⟨_,rfl⟩
     rw [hra] at HMany hle HRg ⊢
     obtain ⟨r1,r2⟩:=ra
     replace HMany:Hid (r2 - r1=(plW S n V k).length):=HMany
     replace hle:r1≤r2∧r2≤N:=hle
     obtain ⟨hr1,hr2⟩:=hle
     obtain ⟨D,hD⟩:∃D,plW S n V k=D:=⟨_,rfl⟩
     rw [hD] at HMany HP3 HPl ⊢
     clear h1 hs hb3 hNe hra hD HRn HB2 HP2 HSs HSy
     go_wp2_with fail
     refine H5.out.mono ?_
     rintro e w4 ⟨u4,rfl,hu4,hb4⟩
     have HB4:=Lib.hid (HB3.out.trans (hb4.mono HB3.out.size))
     have HP4:=Lib.hid (HP3.out.below hb4)
     obtain ⟨A4,c4,rfl,hI4⟩:=ItsR.of_own hu4 (fun i hi=>by
      have h:=sym_lt HSv.out (p:=i) (by rw [HNe.out];exact hi)
      rw [HSk.out] at h
      unfold symI
      omega)
     have HI4:=Lib.hid hI4
     clear hu4 hb4 hI4 H5 HP3 HSv HNe
     obtain ⟨lo,hlo⟩:∃lo,w4.heap.size=lo:=⟨_,rfl⟩
     have HLo:=Lib.hid hlo
     clear hlo
     go_wp2_with fail
     go_loopw [12,71] (fun u v wr=>∃i:Nat,i≤n∧v=.int .i64 (i:Int)∧Hid (wr.ownsRow lo 3 1 u i (icells (patI k V) i))∧Hid (Below lo w4 wr)) (fun _ v _=>n - (intOf v).toNat)
     case atStart=>exact ⟨0,Nat.zero_le _,rfl,Lib.hid (World.ownsRow_nil w4 _ _ _),Lib.hid (by rw [←HLo.out];exact Below.refl _ _)⟩
     case round=>
      obtain ⟨i,hi,rfl,hrow,hB⟩:=hrel
      have hBW:=HB4.out.trans (hB.out.mono (by rw [←HLo.out];exact HB4.out.size))
      by_cases hlt:i < n
      · have hlti:(i:Int) < (n:Int):=by omega
        obtain ⟨ad,rfl,hpb,hpc,hpv⟩:=HBy.out i hlt
        have hpc2:=(hBW.cell (by rw [add_block];exact hpb)).trans hpc
        have hBs:lo≤wr.heap.size:=by have:=hB.out.size;rw [HLo.out] at this;exact this
        have hin:i≤4194304:=by omega
        have w1:IntKind.i64.wrap ((V i:Nat):Int)=((V i:Nat):Int):=IntWalk.i64_in _ (by omega)
        have w2:IntKind.i64.wrap (((V i:Nat):Int)+(k:Int))=((V i:Nat):Int)+(k:Int):=IntWalk.i64_in _ (by omega)
        have HSy:Hid (patI k V i=((V i:Nat):Int)+(k:Int)):=Lib.hid (by unfold patI;omega)
        have HBl:=Lib.hid hB.out
        clear hpc hBW hB
        generalize V i=y at*
        go_wp2_with (at_builtin;refine step_append_int rfl (.tmp 75) (.tmp 81) rfl rfl hrow.out _ rfl hBs hin ?_;intro v3 w3' hown3 hb3')
        have HR5:Hid (w3'.ownsRow lo 3 1 v3 (i+1) (icells (patI k V) (i+1))):=Lib.hid (by
         rw [icells_snoc,HSy.out]
         exact hown3.out)
        have HB5:Hid (Below lo w4 w3'):=Lib.hid (HBl.out.trans hb3')
        go_roundw
        case rel=>exact ⟨i+1,by omega,by go_num,HR5,HB5⟩
        case measure=>simp [intOf];omega
      · obtain rfl:i=n:=by omega
        have hge:¬(i:Int) < (i:Int):=by omega
        obtain ⟨A5,c5,e5,hI5⟩:=ItsR.of_own hrow.out (fun j hj=>by
         obtain ⟨_,_,_,_,h⟩:=HBy.out j hj
         unfold patI
         omega)
        subst e5
        have hb4':Below w4.heap.size w4 wr:=by rw [HLo.out];exact hB.out
        have HB5:=Lib.hid hBW
        have HI5:=Lib.hid hI5
        have HI4r:=Lib.hid (HI4.out.below hb4')
        have HP5:=Lib.hid (HP4.out.below hb4')
        have H6:=Lib.hid (refArrayS_any A4 N c4 (symI S) wr (by omega) HI4r.out.2.2.2)
        clear hrow hI5 hB hBW hb4' HI4 HP4
        go_wp2_with fail
        refine H6.out.mono ?_
        rintro e w6 ⟨u6,s6,rfl,hs6,hu6,hb6⟩
        obtain ⟨A6,c6,rfl,hI6⟩:=ItsR.of_own hu6 (fun j hj=>by
         have:=hs6.1 j hj
         omega)
        have HB6:=Lib.hid (HB5.out.trans (hb6.mono HB5.out.size))
        have HP6:=Lib.hid (HP5.out.below hb6)
        have HRw:=HRg.out s6 hs6
        have H7:=refRange15_any A4 A6 A5 N c4 N c6 i c5 (symI S) (patI k V) s6 w6 (by omega) (by omega) (by unfold maxLen;omega) (fun j hj=>Nat.le_of_lt (hs6.1 j hj)) (HI4r.out.below hb6).2.2.2 hI6.2.2.2 (HI5.out.below hb6).2.2.2
        rw [HRw] at H7
        have H7:=Lib.hid H7
        clear hs6 hu6 hb6 hI6 HRw HRg H6 HI4r HI5 HP5 HB5
        go_wp2_with fail
        refine H7.out.mono ?_
        rintro e w7 ⟨rfl,hb7⟩
        have HB7:=Lib.hid (HB6.out.trans (hb7.mono HB6.out.size))
        have HP7:=Lib.hid (HP6.out.below hb7)
        have H8:=HPl.out HSmall.out.1 HSmall.out.2 hq1 (by omega) w7 HB7.out
        have w9:IntKind.i64.wrap ((r2:Int) - (r1:Int))=((D.length:Nat):Int):=by
         have:=HMany.out
         rw [IntWalk.i64_in _ (by omega)]
         omega
        clear hb7 H7 HP6 HB6 HPl
        go_wp2_with fail
        refine H8.out.mono ?_
        rintro e w8 ⟨u8,rfl,hu8,hb8⟩
        have HB8:=Lib.hid (HB7.out.trans (hb8.mono HB7.out.size))
        have HP8:=Lib.hid (HP7.out.below hb8)
        obtain ⟨A8,c8,rfl,hP8⟩:=PlsR.of_own hu8 (HP8.out.1) (fun d hd=>by
         obtain ⟨j,hj⟩:=List.getElem?_of_mem hd
         obtain ⟨_,_,_,_,_,_,h⟩:=HP8.out.2 j d hj
         exact h)
        have H9:=Lib.hid (refSame19_any A2 A8 c2 c8 D w8 HP8.out hP8)
        clear hu8 hb8 hP8 H8 HB7 HP7
        go_wp2_with fail
        refine H9.out.mono ?_
        rintro e w9' ⟨rfl,hb9⟩
        have HB9:=Lib.hid (HB8.out.trans (hb9.mono HB8.out.size))
        clear hb9 H9
        go_wp2_with fail
        go_ret
        exact ⟨rfl,HB9.out⟩
   · have HNQ:=Lib.hid hq
     have hNQ:n=0∨256 < n:=by unfold RightQ at hq;omega
     clear hq HPl HSmall HSy
     rcases hNQ with h0 | h0
     · subst h0
       go_wp2_with fail
       refine HC.out.mono ?_
       rintro e w2 ⟨_,h1,hb2⟩
       obtain ⟨A2,c2,rfl⟩:=h1 HNQ.out
       have HB2:=Lib.hid (HB1.out.trans (hb2.mono HB1.out.size))
       have HRn:=Lib.hid (HI.out.range_ _ _ S A 0 ca V w2 (HI.out.keep HA1.out hb2) (by omega) (fun e=>⟨rfl,(HA.out e).2⟩) ((HBy.out.below HB2.out).mono_ HB2.out.size))
       clear h1 hb2 HC HB1 HA1
       go_wp2_with fail
       refine HRn.out.mono ?_
       rintro e w3 ⟨_,h1,hb3⟩
       obtain rfl:=h1 HNQ.out
       have HB3:=Lib.hid (HB2.out.trans (hb3.mono HB2.out.size))
       clear h1 hb3 HRn HB2
       go_wp2_with fail
       go_ret
       exact ⟨rfl,HB3.out⟩
     · have q1:((n:Int)==0)=false:=by rw [beq_eq_false_iff_ne];omega
       have q1':¬(n:Int)=0:=by omega
       have q1'':¬n=0:=by omega
       have q2:decide ((256:Int) < (n:Int))=true:=decide_eq_true (by omega)
       have q2':decide (256 < n)=true:=decide_eq_true (by omega)
       go_wp2_with fail
       refine HC.out.mono ?_
       rintro e w2 ⟨_,h1,hb2⟩
       obtain ⟨A2,c2,rfl⟩:=h1 HNQ.out
       have HB2:=Lib.hid (HB1.out.trans (hb2.mono HB1.out.size))
       have HRn:=Lib.hid (HI.out.range_ _ _ S A n ca V w2 (HI.out.keep HA1.out hb2) (by omega) HA.out ((HBy.out.below HB2.out).mono_ HB2.out.size))
       clear h1 hb2 HC HB1 HA1
       go_wp2_with fail
       refine HRn.out.mono ?_
       rintro e w3 ⟨_,h1,hb3⟩
       obtain rfl:=h1 HNQ.out
       have HB3:=Lib.hid (HB2.out.trans (hb3.mono HB2.out.size))
       clear h1 hb3 HRn HB2
       go_wp2_with fail
       go_ret
       exact ⟨rfl,HB3.out⟩
 · rw [decide_eq_false hsm] at H1
   clear HF HSm HNw hsm
   go_wp2_with fail
   refine H1.out.mono ?_
   rintro e w' ⟨rfl,rfl⟩
   go_wp2_with fail
   go_ret
   exact ⟨rfl,hb0⟩
end
end Go.Proofs.YtcidobpbepeakaaGreat
