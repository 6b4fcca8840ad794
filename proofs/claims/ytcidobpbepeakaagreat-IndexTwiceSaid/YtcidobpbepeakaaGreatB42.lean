/- Texts of ours, joined: LcpAny. -/
import Derived.Test.YtcidobpbepeakaaGreatB33
import Derived.Test.YtcidobpbepeakaaGreatB06
import Derived.StillTailTactics
import Derived.Test.YtcidobpbepeakaaGreatB39
set_option maxRecDepth 1000000
set_option maxHeartbeats 6400000
namespace Go.Proofs.YtcidobpbepeakaaGreat
open Go.RowKit
def WMid (L:Nat→Int) (P:Nat→Nat) (n s i:Nat) (W:Nat→Int):Prop:=∀j,j < n→(j=0→W j=0)∧(1≤j→(gap P j < s∨(j≤i∧gap P j < s*2))→W j=lowAt L (P (j - 1)) (P j))
theorem wmid_skip {L:Nat→Int} {P:Nat→Nat} {n s i:Nat} {W:Nat→Int} (h:WMid L P n s i W) (hg:¬(s≤gap P (i+1)∧gap P (i+1) < s*2)):WMid L P n s (i+1) W:=fun j hj=>by
 refine ⟨(h j hj).1,fun h1 h2=>(h j hj).2 h1 ?_⟩
 by_cases e:j=i+1
 · subst e
   exact .inl (by omega)
 · rcases h2 with h2 | h2
   · exact .inl h2
   · exact .inr ⟨by omega,h2.2⟩
theorem wmid_put {L:Nat→Int} {P:Nat→Nat} {n s i:Nat} {W:Nat→Int} {x:Int} (h:WMid L P n s i W) (hx:x=lowAt L (P i) (P (i+1))):WMid L P n s (i+1) (putI W (i+1) x):=fun j hj=>by
 by_cases e:j=i+1
 · subst e
   rw [putI_at,hx]
   exact ⟨fun e=>by omega,fun _ _=>rfl⟩
 · rw [putI_off _ e]
   refine ⟨(h j hj).1,fun h1 h2=>(h j hj).2 h1 ?_⟩
   rcases h2 with h2 | h2
   · exact .inl h2
   · exact .inr ⟨by omega,h2.2⟩
theorem wmid_end {L:Nat→Int} {P:Nat→Nat} {n s i:Nat} {W:Nat→Int} (h:WMid L P n s i W) (hi:n≤i+1):WMid L P n (s*2) 0 W:=fun j hj=>by
 refine ⟨(h j hj).1,fun h1 h2=>(h j hj).2 h1 ?_⟩
 rcases h2 with h2 | h2
 · exact .inr ⟨by omega,h2⟩
 · omega
theorem leasts_any (gr n:Nat) (L:Nat→Int) (A':Option Addr) (c':Nat) (P:Nat→Nat) (w:World) (hn:n≤4194304) (hl:Lies w gr 3 (icells L n)) (ho':Its w gr A' n (xi P)) (hP:∀i,i < n→P i < n) (hne:∀i,i+1 < n→P i≠P (i+1)):
    Calls Tryz.prog 140 #[.slice (some ⟨gr,0,none⟩) n n,.slice A' n c'] w fun e w'=>e=.returned (.slice (some ⟨w.heap.size,0,none⟩) n n)∧(∃W,Lies w' w.heap.size 3 (icells W n)∧WMid L P n n 0 W)∧Below gr w w':=by
 have HO':=Lib.hid ho'
 have HP:=Lib.hid hP
 have hga:=hl.lt
 obtain ⟨a,za⟩:∃a,w.heap.size=a:=⟨_,rfl⟩
 have hMk:=make_ints0 w n hn
 rw [za] at hMk hga ⊢
 obtain ⟨w1,hw1⟩:∃w1,w.alloc (.cells (icells (fun _=>0) n).toArray 3)=w1:=⟨_,rfl⟩
 have k1:Below gr w w1:=by rw [←hw1];exact (Below.refl _ _).alloc (by omega) _
 have l1:Lies w1 a 3 (icells (fun _=>0) n):=by rw [←hw1,←za];exact lies_new w _ _
 have r1:Lies w1 gr 3 (icells L n):=by rw [←hw1];exact hl.alloc _
 rw [hw1] at hMk
 clear ho' hP hw1 za hl
 go_enter Tryz.func140,Tryz.ntmps140
 go_wp2_with fail
 go_loopw [6] (fun u wr=>∃k s:Nat,Hid (2^k=s)∧1≤s∧s≤8388608∧u=.int .i64 (s:Int)∧Hid (∃U,Lies wr gr 3 (icells U n)∧∀i,i < n→LowS L n s i (U i))∧Hid (∃W,Lies wr a 3 (icells W n)∧WMid L P n s 0 W)∧Hid (Below gr w wr)) (fun u _=>n - (intOf u).toNat)
 case atStart=>exact ⟨0,1,Lib.hid rfl,Nat.le_refl _,by omega,rfl,Lib.hid ⟨_,r1,fun i hi=>lowS_one hi⟩,Lib.hid ⟨_,l1,fun j hj=>⟨fun _=>rfl,fun h1 h2=>by
  obtain ⟨i,rfl⟩:∃i,j=i+1:=⟨j - 1,by omega⟩
  have h3:=hne i hj
  have h4:gap P (i+1)=max (P i) (P (i+1)) - min (P i) (P (i+1)):=rfl
  omega⟩⟩,Lib.hid k1⟩
 case round=>
  rename World=>wa
  clear l1 k1 r1 hMk
  obtain ⟨k,s,hks,hs1,hs2,rfl,hU,hW,hb⟩:=hrel
  by_cases hsn:s < n
  · have hsni:(s:Int) < (n:Int):=by omega
    go_wp2_with fail
    obtain ⟨U,hUL,hUS⟩:=hU.out
    have HUL:=Lib.hid hUL
    have HUS:=Lib.hid hUS
    clear hU hUL hUS
    go_loopw [7] (fun u wr=>∃i:Nat,i < n∧u=.int .i64 ((i+1:Nat):Int)∧Hid (Lies wr gr 3 (icells U n))∧Hid (∃W,Lies wr a 3 (icells W n)∧WMid L P n s i W)∧Hid (Below gr w wr)) (fun u _=>n - (intOf u).toNat)
    case atStart=>exact ⟨0,by omega,rfl,HUL,hW,hb⟩
    case round=>
     rename World=>wb
     clear HUL hW hb
     obtain ⟨i,hi,rfl,HUL,hW,hb⟩:=hrel
     by_cases hlt:i+1 < n
     · have HOb:=Lib.hid (HO'.out.below hb.out)
       obtain ⟨ad,rfl,_,hc1,_⟩:=HOb.out i (by omega)
       obtain ⟨_,e,_,hc2,_⟩:=HOb.out (i+1) hlt
       cases e
       have hp1:=HP.out i (by omega)
       have hp2:=HP.out (i+1) hlt
       have hgap:gap P (i+1)=max (P i) (P (i+1)) - min (P i) (P (i+1)):=rfl
       have ca:∀t,(wb.drewN t).cell? (ad.add i)=some (.int .i64 ((P i:Nat):Int)):=fun _=>hc1
       have cb:∀t,(wb.drewN t).cell? (ad.add (i+1))=some (.int .i64 ((P (i+1):Nat):Int)):=fun _=>hc2
       clear hc1 hc2
       obtain ⟨x,hx⟩:∃x,P i=x:=⟨_,rfl⟩
       obtain ⟨y,hy⟩:∃y,P (i+1)=y:=⟨_,rfl⟩
       rw [hx] at hp1 hgap ca
       rw [hy] at hp2 hgap cb
       obtain ⟨lo,hlo⟩:∃lo,min x y=lo:=⟨_,rfl⟩
       obtain ⟨hi',hhi⟩:∃hi',max x y=hi':=⟨_,rfl⟩
       rw [hlo,hhi] at hgap
       have hmn:min (x:Int) (y:Int)=(lo:Int):=by omega
       have hmx:max (x:Int) (y:Int)=(hi':Int):=by omega
       have l3:((i+1:Nat):Int) < (n:Int):=by omega
       have l4:i < n:=by omega
       have hw1:IntKind.i64.wrap (((i+1:Nat):Int) - 1)=(i:Int):=by rw [IntWalk.i64_in _ (by omega)];omega
       obtain ⟨m,hm⟩:∃m,i+1=m:=⟨_,rfl⟩
       rw [hm] at cb hlt l3 hw1 ⊢
       have w2:IntKind.i64.wrap ((hi':Int) - (lo:Int))=((hi' - lo:Nat):Int):=by rw [IntWalk.i64_in _ (by omega)];omega
       have hlh:lo≤hi'∧hi' < n:=by omega
       obtain ⟨hlh,hhn⟩:=hlh
       obtain ⟨d,hd⟩:∃d,hi' - lo=d:=⟨_,rfl⟩
       rw [hd] at w2 hgap
       have w3:IntKind.u64.wrap (d:Int)=(d:Int):=IntWalk.u64_in _ (by omega)
       have w4:IntKind.u64.wrap (s:Int)=(s:Int):=IntWalk.u64_in _ (by omega)
       have hB1:=fun z=>lblen_any d (by omega) (wb.drewN z)
       have hB2:=fun z=>lblen_any s (by omega) (wb.drewN z)
       have hbs:Pl.blen s=k+1:=by rw [←hks.out];exact blen_pow k
       have hbi:=blen_is k d
       rw [hks.out,←hbs] at hbi
       obtain ⟨u,hu⟩:∃u,Pl.blen d=u:=⟨_,rfl⟩
       obtain ⟨v,hv⟩:∃v,Pl.blen s=v:=⟨_,rfl⟩
       have HB1:∀z,Hid (Calls Tryz.prog 113 #[.int .u64 (d:Int)] (wb.drewN z) fun e w'=>e=.returned (.int .i64 (u:Int))∧wb.drewN z=w'):=fun z=>Lib.hid (by rw [←hu];exact hB1 z)
       have HB2:∀z,Hid (Calls Tryz.prog 113 #[.int .u64 (s:Int)] (wb.drewN z) fun e w'=>e=.returned (.int .i64 (v:Int))∧wb.drewN z=w'):=fun z=>Lib.hid (by rw [←hv];exact hB2 z)
       rw [hu,hv] at hbi
       have HMS:=Lib.hid hm
       by_cases huv:u=v
       · have e1:((u:Int)==(v:Int))=true:=by rw [beq_iff_eq];omega
         have e2:(u:Int)=(v:Int):=by omega
         have hsd:=hbi.1 huv
         obtain ⟨x1,hx1⟩:∃x1,lo+1=x1:=⟨_,rfl⟩
         obtain ⟨x2,hx2⟩:∃x2,hi'+1 - s=x2:=⟨_,rfl⟩
         obtain ⟨x3,hx3⟩:∃x3,hi'+1=x3:=⟨_,rfl⟩
         have w5:IntKind.i64.wrap ((lo:Int)+1)=(x1:Int):=by rw [IntWalk.i64_in _ (by omega)];omega
         have w6:IntKind.i64.wrap ((hi':Int)+1)=(x3:Int):=by rw [IntWalk.i64_in _ (by omega)];omega
         have w7:IntKind.i64.wrap ((x3:Int) - (s:Int))=(x2:Int):=by rw [IntWalk.i64_in _ (by omega)];omega
         have x1n:x1 < n:=by omega
         have x2n:x2 < n:=by omega
         have c1:∀z,(wb.drewN z).cell? ⟨gr,x1,none⟩=some (.int .i64 (U x1)):=fun z=>(HUL.out.cell x1).trans (icells_at _ _ _ x1n)
         have c2:∀z,(wb.drewN z).cell? ⟨gr,x2,none⟩=some (.int .i64 (U x2)):=fun z=>(HUL.out.cell x2).trans (icells_at _ _ _ x2n)
         have hval:min (U x1) (U x2)=lowAt L (P i) (P (i+1)):=by
          unfold lowAt
          rw [hx,hy,hlo,hhi,hd]
          obtain ⟨d',rfl⟩:∃d',d=d'+1:=⟨d - 1,by omega⟩
          refine lowS_range (n:=n) (s:=s) ?_ ?_ (by omega) (by omega) (by omega)
          · have:=HUS.out x1 x1n
            rw [←hx1] at this ⊢
            exact this
          · have:=HUS.out x2 x2n
            rw [show lo+1+(d'+1 - 1)+1 - s=x2 by omega]
            exact this
         obtain ⟨y1,hy1⟩:∃y1,U x1=y1:=⟨_,rfl⟩
         obtain ⟨y2,hy2⟩:∃y2,U x2=y2:=⟨_,rfl⟩
         rw [hy1] at c1 hval
         rw [hy2] at c2 hval
         obtain ⟨W,hWL,hWM⟩:=hW.out
         obtain ⟨y3,hy3⟩:∃y3,W m=y3:=⟨_,rfl⟩
         have c3:∀z,(wb.drewN z).cell? ⟨a,m,none⟩=some (.int .i64 y3):=fun z=>by rw [←hy3];exact (hWL.cell m).trans (icells_at _ _ _ hlt)
         have f3:∀z,(wb.drewN z).frozen? ⟨a,m,none⟩=false:=fun z=>hWL.free m
         have HW2:∀z x,Hid (x=lowAt L (P i) (P (i+1))→∃W,Lies ((wb.drewN z).setCell ⟨a,m,none⟩ (.int .i64 x)) a 3 (icells W n)∧WMid L P n s m W):=fun z x=>Lib.hid (fun hxe=>by
          have h1:=wmid_put hWM hxe
          rw [hm] at h1
          refine ⟨_,?_,h1⟩
          have:=(hWL.drewN z).put m (.int .i64 x)
          rw [icells_put] at this
          exact this)
         have HUL2:∀z x,Hid (Lies ((wb.drewN z).setCell ⟨a,m,none⟩ (.int .i64 x)) gr 3 (icells U n)):=fun z x=>Lib.hid ((HUL.out.drewN z).far (p:=⟨a,m,none⟩) (by show gr≠a;omega) _)
         have HBB:∀z x,Hid (Below gr w ((wb.drewN z).setCell ⟨a,m,none⟩ (.int .i64 x))):=fun z x=>Lib.hid ((below_drewN' hb.out z).setCell (p:=⟨a,m,none⟩) (by show gr≤a;omega) _)
         have HV:=Lib.hid hval
         clear hB1 hB2 hbi hu hv huv hx hy hlo hhi hd hgap hbs hsd hx1 hx2 hx3 hval hy1 hy2 hy3 hWL hWM hW hb hm hp1 hp2 HOb
         go_wp2_with fail
         go_quiet (fail)
         go_wp2_with fail
         refine (HB1 _).out.mono ?_
         rintro e w' ⟨rfl,rfl⟩
         go_wp2_with fail
         refine (HB2 _).out.mono ?_
         rintro e w' ⟨rfl,rfl⟩
         go_wp2_with fail
         obtain ⟨w0,hw0⟩:∃w0,wb.drewN nq=w0:=⟨_,rfl⟩
         have q1:w0.cell? ⟨gr,x1,none⟩=some (.int .i64 y1):=by rw [←hw0];exact c1 nq
         have q2:w0.cell? ⟨gr,x2,none⟩=some (.int .i64 y2):=by rw [←hw0];exact c2 nq
         rw [hw0]
         go_still_tail 16,(by kernel_rfl)
         change wpList _ _ _ _ _ (World.drew _)
         obtain ⟨w9,hw9⟩:∃W,w0.drew=W:=⟨_,rfl⟩
         rw [hw9]
         have hq9:wb.drewN (nq+1)=w9:=by rw [←hw9,←hw0];rfl
         have q3:=c3 (nq+1)
         have q4:=f3 (nq+1)
         have HW3:=HW2 (nq+1) (min y1 y2)
         have HU3:=HUL2 (nq+1) (min y1 y2)
         have HB3:=HBB (nq+1) (min y1 y2)
         rw [hq9] at q3 q4 HW3 HU3 HB3
         clear hw0 hw9 hq9 c1 c2 c3 f3 HB1 HB2 HUL2 HW2 HBB q1 q2
         go_wp2_with fail
         go_roundw
         case rel=>exact ⟨m,hlt,by go_num,HU3,Lib.hid (HW3.out HV.out),HB3⟩
         case measure=>simp [intOf];omega
       · have e1:((u:Int)==(v:Int))=false:=by rw [beq_eq_false_iff_ne];omega
         have e2:¬(u:Int)=(v:Int):=by omega
         have HW2:∀z,Hid (∃W,Lies (wb.drewN z) a 3 (icells W n)∧WMid L P n s m W):=fun z=>Lib.hid (by
          obtain ⟨W,hWL,hWM⟩:=hW.out
          refine ⟨W,hWL.drewN z,?_⟩
          rw [←hm]
          refine wmid_skip hWM (fun h=>huv (hbi.2 ?_))
          rw [hgap] at h
          omega)
         have HUL2:∀z,Hid (Lies (wb.drewN z) gr 3 (icells U n)):=fun z=>Lib.hid (HUL.out.drewN z)
         have HBB:∀z,Hid (Below gr w (wb.drewN z)):=fun z=>Lib.hid (below_drewN' hb.out z)
         clear hB1 hB2 hbi hu hv huv hx hy hlo hhi hd hgap hbs hW hb hm hp1 hp2 HOb
         go_wp2_with fail
         go_quiet (fail)
         go_wp2_with fail
         refine (HB1 _).out.mono ?_
         rintro e w' ⟨rfl,rfl⟩
         go_wp2_with fail
         refine (HB2 _).out.mono ?_
         rintro e w' ⟨rfl,rfl⟩
         go_wp2_with fail
         go_roundw
         case rel=>exact ⟨m,hlt,by go_num,HUL2 _,HW2 _,HBB _⟩
         case measure=>simp [intOf];omega
     · have hge:¬((i+1:Nat):Int) < (n:Int):=by omega
       have HW2:Hid (∃W,Lies wb a 3 (icells W n)∧WMid L P n (s*2) 0 W):=Lib.hid (by
        obtain ⟨W,hWL,hWM⟩:=hW.out
        exact ⟨W,hWL,wmid_end hWM (by omega)⟩)
       have HU2:Hid (Lies wb gr 3 (icells (halfU U s 0) n)):=Lib.hid (by rw [half_zero];exact HUL.out)
       obtain ⟨r,hr⟩:∃r,n - s=r:=⟨_,rfl⟩
       have w1:IntKind.i64.wrap ((n:Int) - (s:Int))=(r:Int):=by rw [IntWalk.i64_in _ (by omega)];omega
       have w2:IntKind.i64.wrap ((s:Int)*2)=((s*2:Nat):Int):=by rw [IntWalk.i64_in _ (by omega)];omega
       have HRn:=Lib.hid hr
       have hrn:r+s=n:=by omega
       obtain ⟨m,hm⟩:∃m,i+1=m:=⟨_,rfl⟩
       rw [hm] at hge ⊢
       clear hr hW HUL hm hlt hi
       go_wp2_with fail
       go_loopw [75] (fun u wr=>∃j:Nat,j≤r∧u=.int .i64 (j:Int)∧Hid (Lies wr gr 3 (icells (halfU U s j) n))∧Hid (∃W,Lies wr a 3 (icells W n)∧WMid L P n (s*2) 0 W)∧Hid (Below gr w wr)) (fun u _=>r - (intOf u).toNat)
       case atStart=>exact ⟨0,Nat.zero_le _,rfl,HU2,HW2,hb⟩
       case round=>
        rename World=>wd
        clear HU2 HW2 hb
        obtain ⟨j,hj,rfl,HU2,HW2,hb⟩:=hrel
        by_cases hjr:j < r
        · have hjri:(j:Int) < (r:Int):=by omega
          obtain ⟨q,hq⟩:∃q,j+s=q:=⟨_,rfl⟩
          have w3:IntKind.i64.wrap ((j:Int)+(s:Int))=(q:Int):=by rw [IntWalk.i64_in _ (by omega)];omega
          have qn:q < n:=by omega
          have jn:j < n:=by omega
          have c1:∀z,(wd.drewN z).cell? ⟨gr,j,none⟩=some (.int .i64 (U j)):=fun z=>(HU2.out.cell j).trans ((icells_at _ _ _ jn).trans (by rw [half_new (Nat.le_refl _)]))
          have c2:∀z,(wd.drewN z).cell? ⟨gr,q,none⟩=some (.int .i64 (U q)):=fun z=>(HU2.out.cell q).trans ((icells_at _ _ _ qn).trans (by rw [half_new (by omega)]))
          have f1:∀z,(wd.drewN z).frozen? ⟨gr,j,none⟩=false:=fun z=>HU2.out.free j
          have HU3:∀z,Hid (Lies ((wd.drewN z).setCell ⟨gr,j,none⟩ (.int .i64 (min (U j) (U q)))) gr 3 (icells (halfU U s (j+1)) n)):=fun z=>Lib.hid (by
           have:=(HU2.out.drewN z).put j (.int .i64 (min (U j) (U q)))
           rw [icells_put,←hq,half_step,hq] at this
           exact this)
          have HW3:∀z x,Hid (∃W,Lies ((wd.drewN z).setCell ⟨gr,j,none⟩ x) a 3 (icells W n)∧WMid L P n (s*2) 0 W):=fun z x=>Lib.hid (by
           obtain ⟨W,hWL,hWM⟩:=HW2.out
           exact ⟨W,(hWL.drewN z).far (p:=⟨gr,j,none⟩) (by show a≠gr;omega) _,hWM⟩)
          have HB3:∀z x,Hid (Below gr w ((wd.drewN z).setCell ⟨gr,j,none⟩ x)):=fun z x=>Lib.hid ((below_drewN' hb.out z).setCell (p:=⟨gr,j,none⟩) (Nat.le_refl _) _)
          obtain ⟨y1,hy1⟩:∃y1,U j=y1:=⟨_,rfl⟩
          obtain ⟨y2,hy2⟩:∃y2,U q=y2:=⟨_,rfl⟩
          rw [hy1] at c1 HU3
          rw [hy2] at c2 HU3
          clear hq hy1 hy2 HU2 HW2 hb
          go_wp2_with fail
          have q1:=c1 0
          have q2:=c2 0
          change wd.cell? _=_ at q1
          change wd.cell? _=_ at q2
          go_still_tail 14,(by kernel_rfl)
          change wpList _ _ _ _ _ (World.drew _)
          obtain ⟨w9,hw9⟩:∃W,wd.drew=W:=⟨_,rfl⟩
          rw [hw9]
          have hq9:wd.drewN 1=w9:=by rw [←hw9];rfl
          have q3:=c1 1
          have q4:=f1 1
          have HU4:=HU3 1
          have HW4:=HW3 1 (.int .i64 (min y1 y2))
          have HB4:=HB3 1 (.int .i64 (min y1 y2))
          rw [hq9] at q3 q4 HU4 HW4 HB4
          clear hw9 hq9 c1 c2 f1 HU3 HW3 HB3 q1 q2
          go_wp2_with fail
          go_roundw
          case rel=>exact ⟨j+1,by omega,by go_num,HU4,HW4,HB4⟩
          case measure=>simp [intOf];omega
        · have hge:¬(j:Int) < (r:Int):=by omega
          have HU3:Hid (∃U',Lies wd gr 3 (icells U' n)∧∀i,i < n→LowS L n (s*2) i (U' i)):=Lib.hid (by
           obtain rfl:j=r:=by omega
           refine ⟨_,HU2.out,?_⟩
           rw [←HRn.out]
           exact half_end HUS.out)
          have hks2:Hid (2^(k+1)=s*2):=Lib.hid (by rw [Nat.pow_succ,hks.out])
          have hs3:s*2≤8388608:=by omega
          have hs4:n - s*2 < n - s:=by omega
          obtain ⟨s2,hs2e⟩:∃s2,s*2=s2:=⟨_,rfl⟩
          rw [hs2e] at HU3 HW2 hks2 hs3 hs4 w2
          have hs5:1≤s2:=by omega
          clear HU2 HUS hs2e
          go_wp2_with fail
          go_roundw
          case rel=>exact ⟨k+1,s2,hks2,hs5,hs3,rfl,HU3,HW2,hb⟩
          case measure=>simp [intOf];omega
  · have hge:¬(s:Int) < (n:Int):=by omega
    have HF:Hid ((∃W,Lies wa a 3 (icells W n)∧WMid L P n n 0 W)∧Below gr w wa):=Lib.hid ⟨by
     obtain ⟨W,hWL,hWM⟩:=hW.out
     refine ⟨W,hWL,fun j hj=>⟨(hWM j hj).1,fun h1 h2=>(hWM j hj).2 h1 (.inl ?_)⟩⟩
     have h3:=HP.out j hj
     have h4:=HP.out (j - 1) (by omega)
     have h5:gap P j=max (P (j - 1)) (P j) - min (P (j - 1)) (P j):=rfl
     omega,hb.out⟩
    clear hU hW hb
    go_wp2_with fail
    go_ret
    exact ⟨rfl,HF.out.1,HF.out.2⟩
end Go.Proofs.YtcidobpbepeakaaGreat
namespace Go.Proofs.YtcidobpbepeakaaGreat
open Go.RowKit Go.Shelf
theorem lranked_any (A:Option Addr) (n c:Nat) (V:Nat→Int) (w:World) (hn:n≤4194304) (ho:Its w w.heap.size A n V):
    Calls Tryz.prog 139 #[.slice A n c] w fun e w'=>∃g,e=.returned (.slice (some ⟨g,0,none⟩) n n)∧w.heap.size≤g∧Lies w' g 3 (icells (xi (rkN V n)) n)∧Below w.heap.size w w':=by
 have HO:=Lib.hid ho
 obtain ⟨lo,hlo⟩:∃lo,w.heap.size=lo:=⟨_,rfl⟩
 rw [hlo] at HO ⊢
 have HVa:=Lib.hid (values_any A n c w)
 obtain ⟨w1,hw1⟩:∃w1,w.alloc (.cells #[.slice A n c] 34)=w1:=⟨_,rfl⟩
 have z1:w1.heap.size=lo+1:=by rw [←hw1,size_alloc,hlo]
 have k1:Below lo w w1:=by rw [←hw1,←hlo];exact (Below.refl _ _).alloc (Nat.le_refl _) _
 have l1:Lies w1 lo 34 [.slice A n c]:=by rw [←hw1,←hlo];exact lies_new w _ _
 have HSo:=Lib.hid (sorted_any A n c lo V w1 hn (by omega) (l1.cell 0) ((HO.out.below k1).mono_ (by omega)))
 rw [hlo,hw1] at HVa
 rw [z1] at HSo
 clear ho l1 hw1
 go_enter Tryz.func139,Tryz.ntmps139
 go_wp2_with fail
 refine HVa.out.mono ?_
 rintro e w2 ⟨rfl,rfl⟩
 clear HVa
 go_wp2_with fail
 refine HSo.out.mono ?_
 rintro e w3 ⟨v3,rfl,h3,k3⟩
 have K3:Below lo w w3:=k1.trans (k3.mono (by omega))
 have HS3:=Lib.hid h3
 obtain ⟨a,za⟩:∃a,w3.heap.size=a:=⟨_,rfl⟩
 have hal:lo+1≤a:=by have:=k3.size;omega
 have hMk:=make_ints0 w3 n hn
 rw [za] at hMk
 obtain ⟨w4,hw4⟩:∃w4,w3.alloc (.cells (icells (fun _=>0) n).toArray 3)=w4:=⟨_,rfl⟩
 have k4:Below a w3 w4:=by rw [←hw4,←za];exact (Below.refl _ _).alloc (Nat.le_refl _) _
 have l4:Lies w4 a 3 (icells (fun _=>0) n):=by rw [←hw4,←za];exact lies_new w3 _ _
 rw [hw4] at hMk
 have K4:Below lo w w4:=K3.trans (k4.mono (by omega))
 clear HSo h3 hw4
 go_wp2_with fail
 go_loopw [15] (fun s wr=>∃i:Nat,i≤n∧s=.int .i64 (i:Int)∧Hid (∃U,Lies wr a 3 (icells U n)∧∀j,j < i→U j=((rkN V n j:Nat):Int))∧Hid (Below a w3 wr)∧Hid (Below lo w wr)) (fun s _=>n - (intOf s).toNat)
 case atStart=>exact ⟨0,Nat.zero_le _,rfl,Lib.hid ⟨_,l4,fun j hj=>absurd hj (Nat.not_lt_zero j)⟩,Lib.hid k4,Lib.hid K4⟩
 case round=>
  clear l4 k4 K4 hMk
  obtain ⟨i,hi,rfl,hU,hb,hB⟩:=hrel
  by_cases hlt:i < n
  · have hlti:(i:Int) < (n:Int):=by omega
    obtain ⟨U,hL,hUj⟩:=hU.out
    obtain ⟨ad,rfl,_,hc,_⟩:=HO.out.below hB.out i hlt
    obtain ⟨g,cg,ys,rfl,hg1,hg2,hyl,hyp,hys,hyc⟩:=HS3.out.2 (by omega)
    rw [za] at hg2
    have hS:∀x:Int,Calls Tryz.prog 79 #[.slice (some ⟨g,0,none⟩) n cg,.int .i64 x] wr fun e w'=>∃bx,e=.returned (.tuple #[.int .i64 ((Pl.cnt (fun q=>decide (V q < x)) n:Nat):Int),.bool bx])∧∃q,w'=wr.drewN q:=fun x=>by
     have h:=Any.slices_BinarySearch_int searchLays g 0 n cg ys x wr (by omega) (by omega) (fun j hj=>by
      rw [Nat.zero_add]
      exact (hb.out.cell (p:=⟨g,j,none⟩) hg2).trans (hyc j (by omega))) (by rw [List.take_of_length_le (by omega)];exact hys)
     refine Calls.mono h ?_
     rintro e w' ⟨rfl,q,rfl⟩
     refine ⟨(List.take n ys).contains x,?_,q,rfl⟩
     rw [List.take_of_length_le (by omega),hyp.countP_eq,countP_cnt]
    have hcell:∀q,(wr.drewN q).cell? ⟨a,i,none⟩=some (.int .i64 (U i)):=fun q=>by
     have:=hL.cell i
     rw [icells_at _ _ _ hlt] at this
     exact this
    have hfree:∀q,(wr.drewN q).frozen? ⟨a,i,none⟩=false:=fun q=>hL.free i
    have HU2:∀q,Hid (∃U',Lies ((wr.drewN q).setCell ⟨a,i,none⟩ (.int .i64 ((rkN V n i:Nat):Int))) a 3 (icells U' n)∧∀j,j < i+1→U' j=((rkN V n j:Nat):Int)):=fun q=>Lib.hid ⟨putI U i ((rkN V n i:Nat):Int),by
     have:=(hL.drewN q).put i (.int .i64 ((rkN V n i:Nat):Int))
     rw [icells_put] at this
     exact this,fun j hj=>by
     by_cases e:j=i
     · rw [e,putI_at]
     · rw [putI_off _ e]
       exact hUj j (by omega)⟩
    have HB2:∀q,Hid (Below a w3 ((wr.drewN q).setCell ⟨a,i,none⟩ (.int .i64 ((rkN V n i:Nat):Int)))):=fun q=>Lib.hid ((below_drewN' hb.out q).setCell (p:=⟨a,i,none⟩) (Nat.le_refl _) _)
    have HB3:∀q,Hid (Below lo w ((wr.drewN q).setCell ⟨a,i,none⟩ (.int .i64 ((rkN V n i:Nat):Int)))):=fun q=>Lib.hid ((below_drewN' hB.out q).setCell (p:=⟨a,i,none⟩) (by show lo≤a;omega) _)
    have hSi:=Lib.hid (hS (V i))
    have hrk:Pl.cnt (fun q=>decide (V q < V i)) n=rkN V n i:=rfl
    rw [hrk] at hSi
    clear hU hb hB hL hUj hyp hys hyc hS hrk
    generalize rkN V n i=rk at*
    generalize V i=vi at*
    generalize U i=ui at*
    go_wp2_with fail
    refine hSi.out.mono ?_
    rintro e w' ⟨bx,rfl,q,rfl⟩
    go_wp2_with fail
    go_roundw
    case rel=>exact ⟨i+1,by omega,by go_num,HU2 _,HB2 _,HB3 _⟩
    case measure=>simp [intOf];omega
  · have hin:i=n:=by omega
    have hge:¬(i:Int) < (n:Int):=by omega
    rw [hin] at hU
    have HF:Hid (Lies wr a 3 (icells (xi (rkN V n)) n)∧Below lo w wr):=Lib.hid (by
     obtain ⟨U,hL,hUj⟩:=hU.out
     refine ⟨?_,hB.out⟩
     rw [←icells_congr (U:=U) (U':=xi (rkN V n)) hUj]
     exact hL)
    clear hin hU hb hB
    go_wp2_with fail
    go_ret
    exact ⟨a,rfl,by omega,HF.out.1,HF.out.2⟩
theorem xi_toNat (s:Nat→Nat) (i:Nat):(xi s i).toNat=s i:=Int.toNat_natCast _
theorem itsR_liesL {w:World} {g n:Nat} {V:Nat→Int} (hl:Lies w g 3 (icells V n)) (hn:n≤4194304) (hV:∀i,i < n→ -9223372036854775808≤V i∧V i≤9223372036854775807):ItsR w (some ⟨g,0,none⟩) n n V:=
 ⟨fun e=>(by cases e),Nat.le_refl _,by unfold maxLen;omega,fun k hk=>⟨_,rfl,hl.lt,by
   rw [Addr.add_mid,Nat.zero_add,hl.cell]
   exact icells_at _ _ _ hk,hV k hk⟩⟩
theorem lcpI_small {V S:Nat→Int} {n:Nat} (hn:n≤4194304):∀i,i < n→ -9223372036854775808≤lcpI V n S i∧lcpI V n S i≤9223372036854775807:=fun i _=>by
 have:=lcpI_room (V:=V) (n:=n) (S:=S) (i:=i)
 omega
theorem viaOrder_any (A:Option Addr) (n c:Nat) (V:Nat→Int) (A':Option Addr) (c':Nat) (sN:Nat→Nat) (w:World) (hn:n≤4194304) (ho:ItsR w A n c V) (ho':ItsR w A' n c' (xi sN)) (hs:∀i,i < n→sN i < n) (hne:∀i,i+1 < n→sN i≠sN (i+1)):
    Calls Tryz.prog 95 #[.slice A n c,.slice A' n c'] w fun e w'=>∃(A2:Option Addr) (c2:Nat),e=.returned (.slice A2 n c2)∧ItsR w' A2 n c2 (lcpI V n (xi sN))∧Below w.heap.size w w':=by
 have HO:=Lib.hid ho
 have HO':=Lib.hid ho'
 have HS:=Lib.hid hs
 have HN:=Lib.hid hne
 obtain ⟨lo,hlo⟩:∃lo,w.heap.size=lo:=⟨_,rfl⟩
 have HRk:=Lib.hid (lranked_any A n c V w hn ho.2.2.2)
 rw [hlo] at HRk ⊢
 clear ho ho' hs hne
 go_enter Tryz.func95,Tryz.ntmps95
 go_wp2_with fail
 refine HRk.out.mono ?_
 rintro e w1 ⟨g,rfl,hg,l1,k1⟩
 have i1:ItsR w1 (some ⟨g,0,none⟩) n n (xi (rkN V n)):=itsR_liesL l1 hn (fun i hi=>by
  have:=rkN_lt (V:=V) hi
  show -9223372036854775808≤((rkN V n i:Nat):Int)∧((rkN V n i:Nat):Int)≤9223372036854775807
  omega)
 have HAr:=Lib.hid (array_any (some ⟨g,0,none⟩) n n (xi (rkN V n)) (n:Int) w1 (by unfold maxLen;omega) i1.1 i1.2.1 i1.2.2.1 i1.2.2.2)
 have hz1:=k1.size
 clear HRk l1 i1 hg
 go_wp2_with fail
 refine HAr.out.mono ?_
 rintro e w2 ⟨h2,_,k2⟩
 obtain ⟨A1,c1,s,rfl,hsa0,_,i2⟩:=h2 ⟨⟨by omega,by omega,hn⟩,fun p hp=>by
  have:=rkN_lt (V:=V) hp
  show 0≤((rkN V n p:Nat):Int)∧((rkN V n p:Nat):Int) < (n:Int)
  omega⟩
 have hsa:IsSA V n s:=hsa0.mapped (fun i j hi hj=>(rkN_iff hi hj).symm)
 have K2:Below lo w w2:=k1.trans (k2.mono (by omega))
 have HI2:=Lib.hid i2
 have HSA:=Lib.hid hsa
 have HTu:=Lib.hid (turn_any A1 n c1 _ w2 hn i2.2.2.2)
 clear h2 HAr hsa0 hsa i2 k1 k2 hz1
 go_wp2_with fail
 refine HTu.out.mono ?_
 rintro e w3 ⟨h3,_,k3⟩
 obtain ⟨A2,c2,R,rfl,hR,i3⟩:=h3 HSA.out.perm
 have K3:Below lo w w3:=K2.trans (k3.mono (by have:=K2.size;omega))
 have HI3:=Lib.hid (HI2.out.below k3)
 have HR3:=Lib.hid i3
 have HRs:Hid (∀i,i < n→R (s i)=(i:Int)):=Lib.hid fun i hi=>by
  have:=hR i hi
  rw [Int.toNat_natCast] at this
  exact this
 obtain ⟨P,hP⟩:∃P:Nat→Nat,∀i,i < n→P i < n∧s (P i)=sN i∧R (sN i)=((P i:Nat):Int):=⟨fun i=>(R (sN i)).toNat,fun i hi=>by
  obtain ⟨k,hk,e⟩:=HSA.out.onto (HS.out i hi)
  have h1:=HRs.out k hk
  rw [e] at h1
  show (R (sN i)).toNat < n∧s (R (sN i)).toNat=sN i∧R (sN i)=(((R (sN i)).toNat:Nat):Int)
  rw [h1,Int.toNat_natCast]
  exact ⟨hk,e,rfl⟩⟩
 have HP:=Lib.hid hP
 obtain ⟨a,za⟩:∃a,w3.heap.size=a:=⟨_,rfl⟩
 have hMk:=make_ints0 w3 n hn
 rw [za] at hMk
 obtain ⟨w4,hw4⟩:∃w4,w3.alloc (.cells (icells (fun _=>0) n).toArray 3)=w4:=⟨_,rfl⟩
 have k4:Below a w3 w4:=by rw [←hw4,←za];exact (Below.refl _ _).alloc (Nat.le_refl _) _
 have l4:Lies w4 a 3 (icells (fun _=>0) n):=by rw [←hw4,←za];exact lies_new w3 _ _
 rw [hw4] at hMk
 have hla:lo≤a:=by have:=K3.size;omega
 have HK3:=Lib.hid K3
 clear h3 HTu hR i3 hP hw4 HI2 K2 k3 K3
 go_wp2_with fail
 go_loopw [30] (fun u wr=>∃i:Nat,i≤n∧u=.int .i64 (i:Int)∧Hid (∃U,Lies wr a 3 (icells U n)∧∀j,j < i→U j=((P j:Nat):Int))∧Hid (Below a w3 wr)) (fun u _=>n - (intOf u).toNat)
 case atStart=>exact ⟨0,Nat.zero_le _,rfl,Lib.hid ⟨_,l4,fun j hj=>absurd hj (Nat.not_lt_zero j)⟩,Lib.hid k4⟩
 case round=>
  rename World=>wa
  clear l4 k4 hMk
  obtain ⟨i,hi,rfl,hU,hb⟩:=hrel
  have HKa:Hid (Below lo w wa):=Lib.hid (HK3.out.trans (hb.out.mono hla))
  by_cases hlt:i < n
  · have hlti:(i:Int) < (n:Int):=by omega
    obtain ⟨ad',rfl,_,hc1,_⟩:=((HO'.out.below (hlo▸HKa.out)).2.2.2) i hlt
    obtain ⟨ad2,rfl,_,hc2,_⟩:=(HR3.out.below (za▸hb.out)).2.2.2 (sN i) (HS.out i hlt)
    obtain ⟨hP1,hP2,hP3⟩:=HP.out i hlt
    rw [hP3] at hc2
    have hsl:=HS.out i hlt
    have hc1':wa.cell? (ad'.add i)=some (.int .i64 ((sN i:Nat):Int)):=hc1
    obtain ⟨x,hx⟩:∃x,sN i=x:=⟨_,rfl⟩
    rw [hx] at hc1' hc2 hsl
    obtain ⟨y,hy⟩:∃y,P i=y:=⟨_,rfl⟩
    rw [hy] at hc2
    have hsl2:(x:Int) < (n:Int):=by omega
    obtain ⟨U,hUL,hUj⟩:=hU.out
    obtain ⟨z,hz⟩:∃z,U i=z:=⟨_,rfl⟩
    have hcell:wa.cell? ⟨a,i,none⟩=some (.int .i64 z):=by rw [←hz];exact (hUL.cell i).trans (icells_at _ _ _ hlt)
    have hfree:wa.frozen? ⟨a,i,none⟩=false:=hUL.free i
    have HU2:Hid (∃U',Lies (wa.setCell ⟨a,i,none⟩ (.int .i64 (y:Int))) a 3 (icells U' n)∧∀j,j < i+1→U' j=((P j:Nat):Int)):=Lib.hid ⟨putI U i (y:Int),by
     have:=hUL.put i (.int .i64 (y:Int))
     rw [icells_put] at this
     exact this,fun j hj=>by
     by_cases e:j=i
     · rw [e,putI_at,hy]
     · rw [putI_off _ e]
       exact hUj j (by omega)⟩
    have HB2:Hid (Below a w3 (wa.setCell ⟨a,i,none⟩ (.int .i64 (y:Int)))):=Lib.hid (hb.out.setCell (p:=⟨a,i,none⟩) (Nat.le_refl _) _)
    clear hc1 hx hy hU hb HKa hUL hUj hz hP1 hP2 hP3
    go_wp2_with fail
    go_roundw
    case rel=>exact ⟨i+1,by omega,by go_num,HU2,HB2⟩
    case measure=>simp [intOf];omega
  · have hin:i=n:=by omega
    have hge:¬(i:Int) < (n:Int):=by omega
    obtain ⟨U,hUL0,hUj⟩:=hU.out
    have hUL:Lies wa a 3 (icells (xi P) n):=by
     rw [←icells_congr (U:=U) (U':=xi P) (fun j hj=>hUj j (by omega))]
     exact hUL0
    have HUL:=Lib.hid hUL
    obtain ⟨b,zb⟩:∃b,wa.heap.size=b:=⟨_,rfl⟩
    have hab:a < b:=by rw [←zb];exact hUL.lt
    have HNe:=Lib.hid (lneigh_any A A1 A2 n c c1 c2 V R s wa hn HO.out.2.1 HO.out.2.2.1 (HO.out.below (hlo▸HKa.out)).2.2.2 ((HI3.out.below (za▸hb.out)).2.2.2) ((HR3.out.below (za▸hb.out)).2.2.2) HSA.out HRs.out)
    rw [zb] at HNe
    clear hin hU hUL0 hUj hUL hb
    go_wp2_with fail
    refine HNe.out.mono ?_
    rintro e w5 ⟨rfl,l5,k5⟩
    have i5:Its w5 b (some ⟨a,0,none⟩) n (xi P):=fun k hk=>⟨_,rfl,hab,by
     rw [Addr.add_mid,Nat.zero_add,(HUL.out.below k5 hab).cell]
     exact icells_at _ _ _ hk,by
     have:=(HP.out k hk).1
     show -9223372036854775808≤((P k:Nat):Int)∧((P k:Nat):Int)≤9223372036854775807
     omega⟩
    have HLe:=Lib.hid (leasts_any b n (lcpI V n (xi s)) (some ⟨a,0,none⟩) n P w5 hn l5 i5 (fun i hi=>(HP.out i hi).1) (fun i hi e=>HN.out i hi (by
     rw [←(HP.out i (by omega)).2.1,←(HP.out (i+1) hi).2.1,e])))
    have HK5:Hid (Below lo w w5):=Lib.hid (HKa.out.trans (k5.mono (by omega)))
    clear HNe l5 i5 k5
    go_wp2_with fail
    refine HLe.out.mono ?_
    rintro e w6 ⟨rfl,⟨W,hWL,hWM⟩,k6⟩
    have HF:Hid (ItsR w6 (some ⟨w5.heap.size,0,none⟩) n n (lcpI V n (xi sN))∧Below lo w w6):=Lib.hid (by
     refine ⟨itsR_liesL ?_ hn (lcpI_small hn),HK5.out.trans (k6.mono (by omega))⟩
     rw [←icells_congr (U:=W) (U':=lcpI V n (xi sN)) (fun j hj=>?_)]
     · exact hWL
     · cases j with
       | zero=>rw [lcpI_zero];exact (hWM 0 hj).1 rfl
       | succ j=>
         have h1:=HP.out j (by omega)
         have h2:=HP.out (j+1) hj
         have hpp:P j≠P (j+1):=fun e=>HN.out j hj (by rw [←h1.2.1,←h2.2.1,e])
         have h3:gap P (j+1)=max (P j) (P (j+1)) - min (P j) (P (j+1)):=rfl
         rw [(hWM (j+1) hj).2 (by omega) (.inl (by omega)),lcpI_succ]
         show lowAt (lcpI V n (xi s)) (P j) (P (j+1))=comI V n ((sN j:Nat):Int) ((sN (j+1):Nat):Int)
         rw [comI_in (HS.out j (by omega)) (HS.out (j+1) hj),←h1.2.1,←h2.2.1]
         exact lowAt_com HSA.out h1.1 h2.1 hpp)
    clear HLe hWL hWM k6
    go_wp2_with fail
    go_ret
    exact ⟨_,n,rfl,HF.out.1,HF.out.2⟩
theorem larray_any (A:Option Addr) (n c:Nat) (V:Nat→Int) (A':Option Addr) (n' c':Nat) (S:Nat→Int) (w:World) (hn:n≤4194304) (hn':n'≤4194304) (ho:ItsR w A n c V) (ho':ItsR w A' n' c' S):
    Calls Tryz.prog 56 #[.slice A n c,.slice A' n' c'] w (LArrayPost w n n' V S):=by
 unfold LArrayPost
 have HO:=Lib.hid ho
 have HO':=Lib.hid ho'
 have HTu:=Lib.hid (turn_any A' n' c' S w hn' ho'.2.2.2)
 obtain ⟨lo,hlo⟩:∃lo,w.heap.size=lo:=⟨_,rfl⟩
 unfold TurnPost at HTu
 rw [hlo] at HTu ⊢
 clear ho ho'
 go_enter Tryz.func56,Tryz.ntmps56
 go_wp2_with fail
 refine HTu.out.mono ?_
 rintro e w1 ⟨h1,h2,k1⟩
 clear HTu
 by_cases hp:IsPerm S n'
 · obtain ⟨A2,c2,R,rfl,hR,i1⟩:=h1 hp
   by_cases he:n=n'
   · subst he
     have HPm:=Lib.hid hp
     obtain ⟨sN,hsN⟩:∃sN:Nat→Nat,∀i,i < n→S i=xi sN i∧sN i < n:=⟨fun i=>(S i).toNat,fun i hi=>by
      have:=hp.1 i hi
      show S i=(((S i).toNat:Nat):Int)∧(S i).toNat < n
      omega⟩
     have HSn:=Lib.hid hsN
     have hne:∀i j,i < j→j < n→sN i≠sN j:=fun i j hij hj e=>hp.2 i j hij hj (by
      rw [(hsN i (by omega)).1,(hsN j hj).1]
      show ((sN i:Nat):Int)=((sN j:Nat):Int)
      rw [e])
     have hRs:∀i,i < n→R (sN i)=(i:Int):=fun i hi=>by
      have:=hR i hi
      rw [(hsN i hi).1,xi_toNat] at this
      exact this
     have hon:∀p,p < n→∃i,i < n∧sN i=p:=fun p hp2=>by
      obtain ⟨i,h3,h4⟩:=hp.onto hp2
      have h5:=(hsN i h3).1
      rw [h4] at h5
      have h5:(p:Int)=((sN i:Nat):Int):=h5
      exact ⟨i,h3,by omega⟩
     have hR0:∀p,p < n→0≤R p:=fun p hp2=>by
      obtain ⟨i,h3,h4⟩:=hon p hp2
      rw [←h4,hRs i h3]
      omega
     have HNe:=Lib.hid hne
     have HRs:=Lib.hid hRs
     have HOn:=Lib.hid hon
     have J1:=HO.out.below (hlo▸k1)
     have J2':=HO'.out.below (hlo▸k1)
     have J2:ItsR w1 A' n c' (xi sN):=⟨J2'.1,J2'.2.1,J2'.2.2.1,J2'.2.2.2.congr_ (fun i hi=>(hsN i hi).1)⟩
     have HJ1:=Lib.hid J1
     have HJ2:=Lib.hid J2
     have HJ3:=Lib.hid i1
     obtain ⟨r,hr⟩:∃r:Bool,r=true↔∀i,i+1 < n→OrdAt V R n sN i:=⟨@decide _ (Classical.propDecidable _),@decide_eq_true_iff _ (Classical.propDecidable _)⟩
     have HIn:=Lib.hid (inOrder_any A A' A2 n c c' c2 V R sN w1.heap.size w1 hn J1.2.2.2 J2.2.2.2 i1.2.2.2 (fun i hi=>(hsN i hi).2) (fun i hi=>hne i (i+1) (by omega) hi) hR0 r hr)
     have HK1:=Lib.hid k1
     have HLc:Hid (∀i,i < n→lcpI V n (xi sN) i=lcpI V n S i):=Lib.hid (lcpI_congr (fun i hi=>(hsN i hi).1.symm))
     have HSA:r=true→Hid (IsSA V n sN):=fun e=>Lib.hid (sorted_sa (fun i hi=>(HSn.out i hi).2) HRs.out HOn.out (hr.1 e))
     have hlo1:lo≤w1.heap.size:=by have:=k1.size;omega
     clear h1 h2 hp hR hsN hne hRs hon hR0 J1 J2 J2' i1 hr
     go_wp2_with fail
     refine HIn.out.mono ?_
     rintro e w2 ⟨rfl,q,rfl⟩
     have K2:Below w1.heap.size w1 (w1.drewN q):=below_drewN' (Below.refl _ _) q
     have HJ1':=Lib.hid (HJ1.out.below K2)
     have HJ2':=Lib.hid (HJ2.out.below K2)
     have HJ3':=Lib.hid (HJ3.out.below K2)
     have HK2:Hid (Below lo w (w1.drewN q)):=Lib.hid (HK1.out.trans (K2.mono hlo1))
     clear HIn K2 HJ1 HJ2 HJ3 HK1
     generalize w1.drewN q=w2 at*
     rcases r with _ | _
     · have HVi:=Lib.hid (viaOrder_any A n c V A' c' sN w2 hn HJ1'.out HJ2'.out (fun i hi=>(HSn.out i hi).2) (fun i hi=>HNe.out i (i+1) (by omega) hi))
       have d1:decide ((4194304:Int) < (n:Int))=false:=decide_eq_false (by omega)
       have d2:¬(4194304:Int) < (n:Int):=by omega
       go_wp2_with fail
       refine HVi.out.mono ?_
       rintro e w3 ⟨A3,c3,rfl,h3,k3⟩
       have HF:Hid (ItsR w3 A3 n c3 (lcpI V n S)∧Below lo w w3):=Lib.hid ⟨⟨h3.1,h3.2.1,h3.2.2.1,h3.2.2.2.congr_ HLc.out⟩,HK2.out.trans (k3.mono (by have:=HK2.out.size;omega))⟩
       clear HVi h3 k3
       go_wp2_with fail
       go_ret2
       exact ⟨fun _=>⟨_,_,rfl,HF.out.1⟩,fun h=>absurd HPm.out h,HF.out.2⟩
     · have hSA:=HSA rfl
       have HNb:=Lib.hid (lneigh_any A A' A2 n c c' c2 V R sN w2 hn HJ1'.out.2.1 HJ1'.out.2.2.1 HJ1'.out.2.2.2 HJ2'.out.2.2.2 HJ3'.out.2.2.2 hSA.out HRs.out)
       go_wp2_with fail
       refine HNb.out.mono ?_
       rintro e w3 ⟨rfl,l3,k3⟩
       have HF:Hid (ItsR w3 (some ⟨w2.heap.size,0,none⟩) n n (lcpI V n S)∧Below lo w w3):=Lib.hid (by
        have h3:=itsR_liesL l3 hn (lcpI_small hn)
        exact ⟨⟨h3.1,h3.2.1,h3.2.2.1,h3.2.2.2.congr_ HLc.out⟩,HK2.out.trans (k3.mono (by have:=HK2.out.size;omega))⟩)
       clear HNb l3 k3
       go_wp2_with fail
       go_ret2
       exact ⟨fun _=>⟨_,_,rfl,HF.out.1⟩,fun h=>absurd HPm.out h,HF.out.2⟩
   · have hne:((n':Int) != (n:Int))=true:=by rw [bne_iff_ne];omega
     have hne2:¬(n':Int)=(n:Int):=by omega
     have HE:=Lib.hid he
     clear h1 h2 hp hR i1 he
     go_wp2_with fail
     go_ret2
     exact ⟨fun h=>absurd h.1 HE.out,fun _=>⟨none,0,rfl⟩,k1⟩
 · obtain ⟨A2,c2,rfl⟩:=h2 hp
   have HE:=Lib.hid hp
   clear h1 h2 hp
   go_wp2_with fail
   go_ret2
   exact ⟨fun h=>absurd (h.1▸h.2) HE.out,fun _=>⟨none,0,rfl⟩,k1⟩
end Go.Proofs.YtcidobpbepeakaaGreat
