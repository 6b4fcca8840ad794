/- Texts of ours, joined: IdxRef IdxTop TxtI TxtPlaces IdxI OwnParts Range TxtParts TxtDev TxtRow Search TxtDoc TxtNew TxtAny. -/
import Derived.Test.YtcidobpbepeakaaGreatB02
import Derived.Test.YtcidobpbepeakaaGreatB03
import Derived.Deep.AppendLies
import Derived.Deep.QuietTactic
import Derived.BigQuiet
import Derived.Test.YtcidobpbepeakaaGreatB01
import Derived.Deep.CutBlock
import Derived.Deep.DeepCutAuto
import Derived.Lib.SmallJoins
import Derived.RangeFuncNested
import Derived.RangeFuncBound
import Derived.RangeFuncCalls
import Derived.RangeFuncLeaves
import Derived.Shelf.Abstract
import Derived.Shelf.RegionOpen
import Derived.OwnWalkIn
import Derived.TacticsInMore
import Derived.LoopNIn
import Derived.LoopIn
import Derived.Deep.WholeRow
import Derived.Deep.MidRow
import Derived.StillTailTactics
import Derived.Laws.CopyOwn
import Derived.Test.YtcidobpbepeakaaGreatRows
import Derived.Deep.RegionHeld3
import Derived.Laws.OwnMore
import Derived.RegionTactic
import Derived.Deep.LoopGhost
import Derived.Deep.RegionWith
import Derived.Deep.RegionLaw
import Derived.Deep.DrawnRows
set_option maxRecDepth 1000000
set_option maxHeartbeats 6400000
namespace Go.Proofs.YtcidobpbepeakaaGreat
open Go.RowKit
theorem Bys.cutX {w:World} {B n m e:Nat} {ad:Addr} {V:Nat→Nat} (h:Bys w B (some ad) n V) (he:m+e≤n):Bys w B (some (ad.add m)) e (fun k=>V (m+k)):=fun k hk=>by
 obtain ⟨ad',e1,hb,hc,hv⟩:=h (m+k) (by omega)
 cases e1
 refine ⟨ad.add m,rfl,by rw [add_block];exact hb,?_,hv⟩
 rw [Addr.add_add]
 exact hc
theorem refTimes_any (x:Part) (A:Option Addr) (m c:Nat) (p:Nat→Nat) (w:World) (hxc:x.n≤x.c) (hcm:x.c≤maxLen) (hx:Bys w w.heap.size x.A x.n x.V) (hm:0 < m) (hm4:m≤1000) (hxn:x.n≤4000000) (hp:Bys w w.heap.size A m p):
    Calls Tryz.prog 36 #[.slice x.A x.n x.c,.slice A m c] w fun e w'=>e=.returned (.int .i64 ((tmD x.sec m p:Nat):Int))∧∃k,w'=w.drewN k:=by
 obtain ⟨AX,n,cx,V⟩:=x
 dsimp only at hxc hcm hx hxn ⊢
 have HX:=Lib.hid hx
 have HP:=Lib.hid hp
 have hcx:cx≤9223372036854775807:=by unfold maxLen at hcm;omega
 obtain ⟨r,hr⟩:∃r,tmD (Part.sec ⟨AX,n,cx,V⟩) m p=r:=⟨_,rfl⟩
 have HR:=Lib.hid hr
 rw [hr]
 clear hx hp hr
 go_enter Tryz.func36,Tryz.ntmps36
 go_wp2_with fail
 go_loopw [5,6] (fun u v wr=>∃i t:Nat,i≤n+1∧v=.int .i64 (i:Int)∧u=.int .i64 (t:Int)∧t≤i∧Hid (t=Pl.cnt (occB ⟨n,V⟩ m p) i)∧∃k,wr=w.drewN k) (fun _ v _=>n+1 - (intOf v).toNat)
 case atStart=>exact ⟨0,0,Nat.zero_le _,rfl,rfl,Nat.le_refl _,Lib.hid rfl,0,rfl⟩
 case round=>
  obtain ⟨i,t,hi,rfl,rfl,hti,hT,z,rfl⟩:=hrel
  have e0:IntKind.i64.wrap ((i:Int)+(m:Int))=((i+m:Nat):Int):=by rw [IntWalk.i64_in _ (by omega)];omega
  obtain ⟨j,hj⟩:∃j,i+m=j:=⟨_,rfl⟩
  rw [hj] at e0
  by_cases hlt:j≤n
  · have hltj:decide ((j:Int)≤(n:Int))=true:=decide_eq_true (by omega)
    have hltk:decide (j≤n)=true:=decide_eq_true hlt
    obtain ⟨ad,rfl,_⟩:=HX.out 0 (by omega)
    have hcut:=HX.out.cutX (m:=i) (e:=m) (by omega)
    have hc1:∀q,(convert 23 9 (.slice (some (ad.add i)) m (cx - i))).run Tryz.prog (w.drewN q)=.ok (.string (bstr (fun k=>V (i+k)) m)) (w.drewN q):=fun q=>(hcut.below (below_drewN' (Below.refl _ _) q)).conv _
    have hc2:∀q,(convert 23 9 (.slice A m c)).run Tryz.prog (w.drewN q)=.ok (.string (bstr p m)) (w.drewN q):=fun q=>(HP.out.below (below_drewN' (Below.refl _ _) q)).conv _
    have l1:(i:Int)≤(j:Int):=by omega
    have l2:i≤j:=by omega
    have l3:¬cx=i:=by omega
    have l4:j - i=m:=by omega
    have l5:j≤cx:=by omega
    have l6:(j:Int)≤(cx:Int):=by omega
    clear hcut
    by_cases hs:bstr (fun k=>V (i+k)) m=bstr p m
    · have hst:=str_same hs
      have HN:Hid (t+1=Pl.cnt (occB ⟨n,V⟩ m p) (i+1)):=Lib.hid (by
       show t+1=Pl.cnt _ i+(if occB ⟨n,V⟩ m p i=true then 1 else 0)
       rw [if_pos (occB_yes (x:=⟨n,V⟩) (by show i+m≤n;omega) hs),hT.out])
      clear hT hs
      go_wp2_with fail
      go_quiet (fail)
      go_wp2_with fail
      go_roundw
      case rel=>exact ⟨i+1,t+1,by omega,by go_num,by go_num,by omega,HN,_,rfl⟩
      case measure=>simp [intOf];omega
    · have hst:=str_unlike hs
      have HN:Hid (t=Pl.cnt (occB ⟨n,V⟩ m p) (i+1)):=Lib.hid (by
       show t=Pl.cnt _ i+(if occB ⟨n,V⟩ m p i=true then 1 else 0)
       rw [if_neg (by rw [occB_no (x:=⟨n,V⟩) hs];decide),hT.out]
       rfl)
      clear hT hs
      go_wp2_with fail
      go_quiet (fail)
      go_wp2_with fail
      go_roundw
      case rel=>exact ⟨i+1,t,by omega,by go_num,rfl,by omega,HN,_,rfl⟩
      case measure=>simp [intOf];omega
  · have hltj:decide ((j:Int)≤(n:Int))=false:=decide_eq_false (by omega)
    have hltk:decide (j≤n)=false:=decide_eq_false hlt
    have HE:Hid (r=t):=Lib.hid (by
     rw [←HR.out,hT.out]
     exact tmD_end (x:=⟨n,V⟩) (by show ¬i+m≤n;omega) hi)
    clear hT HR
    go_wp2_with fail
    go_ret
    exact ⟨by rw [HE.out];rfl,z,rfl⟩
theorem refTimes_at (P:Option Addr) (L:List Part) (A:Option Addr) (m c:Nat) (p:Nat→Nat) (w W:World) (hb:Below w.heap.size w W) (ho:Secs w w.heap.size P L) (hm:0 < m) (hm4:m≤1000) (hS:lenT (docsP L)≤4000000) (hp:Bys w w.heap.size A m p) {d:Nat} {x:Part} (hd:L[d]?=some x):
    Calls Tryz.prog 36 #[.slice x.A x.n x.c,.slice A m c] W fun e w'=>e=.returned (.int .i64 ((tmA (docsP L) m p d:Nat):Int))∧∃k,w'=W.drewN k:=by
 obtain ⟨ad,_,_,_,h4,h5,_,h7⟩:=(ho.below hb) d x hd
 have hin:=offT_in (docsP_at hd)
 have hin:offT (docsP L) d+(x.n+1)≤lenT (docsP L):=hin
 rw [tmA_at (docsP_at hd)]
 exact refTimes_any x A m c p W h4 h5 (h7.mono_ hb.size) hm hm4 (by omega) ((hp.below hb).mono_ hb.size)
theorem refCount19_any (P:Option Addr) (c:Nat) (L:List Part) (A:Option Addr) (m cp:Nat) (p:Nat→Nat) (w:World) (hL:L.length≤4000) (hS:lenT (docsP L)≤4000000) (ho:Secs w w.heap.size P L) (hm:0 < m) (hm4:m≤1000) (hp:Bys w w.heap.size A m p):
    Calls Tryz.prog 14 #[.slice P L.length c,.slice A m cp] w fun e w'=>e=.returned (.agg #[.int .i64 (((prW (docsP L) m p L.length).length:Nat):Int),.int .i64 ((tmW (docsP L) m p L.length:Nat):Int)])∧Below w.heap.size w w':=by
 have HO:=Lib.hid ho
 have HTi:Hid (∀(W:World) (d:Nat) (x:Part),Below w.heap.size w W→L[d]?=some x→Hid (Calls Tryz.prog 36 #[.slice x.A x.n x.c,.slice A m cp] W fun e w'=>e=.returned (.int .i64 ((tmA (docsP L) m p d:Nat):Int))∧∃k,w'=W.drewN k)):=Lib.hid fun W d x hb hd=>Lib.hid (refTimes_at P L A m cp p w W hb ho hm hm4 hS hp hd)
 obtain ⟨k,hk⟩:∃k,L.length=k:=⟨_,rfl⟩
 have HTm:Hid (∀d,d≤k→tmW (docsP L) m p d≤4000000):=Lib.hid fun d hd=>by
  have h1:=tmW_le (docsP L) m p d (by rw [docsP_length,hk];exact hd)
  have h2:=offT_mono (S:=docsP L) (d:=d) (e:=(docsP L).length) (by rw [docsP_length,hk];exact hd) (Nat.le_refl _)
  unfold lenT at hS
  omega
 rw [hk] at hL ⊢
 have HK:=Lib.hid hk
 obtain ⟨lo,hlo⟩:∃lo,w.heap.size=lo:=⟨_,rfl⟩
 have HLo:=Lib.hid hlo
 rw [hlo] at HTi
 rw [hlo]
 generalize docsP L=S at*
 clear ho hk hS hp hm hm4 hlo
 obtain ⟨wa,hwa⟩:∃wa,w.alloc (.cells #[.int .i64 0,.int .i64 0] 31)=wa:=⟨_,rfl⟩
 obtain ⟨wb,hwb⟩:∃wb,wa.alloc (.cells #[.int .i64 0,.int .i64 0] 31)=wb:=⟨_,rfl⟩
 have za:wa.heap.size=lo+1:=by rw [←hwa,size_alloc,HLo.out]
 have HLa:Hid (Lies wb lo 31 [.int .i64 0,.int .i64 0]):=Lib.hid (by
  rw [←hwb,←HLo.out]
  refine Lies.alloc ?_ _
  rw [←hwa]
  exact lies_new w _ _)
 have HLb:Hid (Lies wb (lo+1) 31 [.int .i64 0,.int .i64 0]):=Lib.hid (by rw [←hwb,←za];exact lies_new wa _ _)
 have HB0:Hid (Below lo w wb):=Lib.hid (by
  rw [←hwb,←hwa,←HLo.out]
  exact ((Below.refl _ _).alloc (Nat.le_refl _) _).alloc (by rw [size_alloc];omega) _)
 go_enter Tryz.func14,Tryz.ntmps14
 go_wp2_with fail
 rw [HLo.out]
 clear hwa hwb za
 go_loopw [11] (fun v wr=>∃i:Nat,i≤k∧v=.int .i64 (i:Int)∧Hid (Lies wr lo 31 [.int .i64 0,.int .i64 0])∧Hid (Lies wr (lo+1) 31 [.int .i64 (((prW S m p i).length:Nat):Int),.int .i64 ((tmW S m p i:Nat):Int)])∧Hid (Below lo w wr)) (fun v _=>k - (intOf v).toNat)
 case atStart=>exact ⟨0,Nat.zero_le _,rfl,HLa,HLb,HB0⟩
 case round=>
  clear HLa HLb HB0
  obtain ⟨i,hi,rfl,hA,hT,hB⟩:=hrel
  by_cases hlt:i < k
  · have hlti:(i:Int) < (k:Int):=by omega
    obtain ⟨x,hx⟩:∃x,L[i]?=some x:=⟨_,List.getElem?_eq_getElem (by rw [HK.out];exact hlt)⟩
    obtain ⟨ad,rfl,_,hc,_⟩:=(HO.out.below (by rw [HLo.out];exact hB.out)) i x hx
    have HC:=HTi.out wr i x hB.out hx
    have ht1:=HTm.out (i+1) (by omega)
    have ht1:tmW S m p i+tmA S m p i≤4000000:=ht1
    have hpl:=prW_le S m p i
    have c1:∀q,(wr.drewN q).cell? ⟨lo+1,1,none⟩=some (.int .i64 ((tmW S m p i:Nat):Int)):=fun q=>hT.out.cell 1
    have c0:∀q u,((wr.drewN q).setCell ⟨lo+1,1,none⟩ u).cell? ⟨lo+1,0,none⟩=some (.int .i64 (((prW S m p i).length:Nat):Int)):=fun q u=>((hT.out.drewN q).put 1 u).cell 0
    have f1:∀q,(wr.drewN q).frozen? ⟨lo+1,1,none⟩=false:=fun q=>hT.out.free 1
    have f0:∀q u,((wr.drewN q).setCell ⟨lo+1,1,none⟩ u).frozen? ⟨lo+1,0,none⟩=false:=fun q u=>((hT.out.drewN q).put 1 u).free 0
    have w1:IntKind.i64.wrap (((tmW S m p i:Nat):Int)+((tmA S m p i:Nat):Int))=((tmW S m p (i+1):Nat):Int):=by
     show _=((tmW S m p i+tmA S m p i:Nat):Int)
     rw [IntWalk.i64_in _ (by omega)]
     omega
    have w2:IntKind.i64.wrap ((((prW S m p i).length:Nat):Int)+1)=(((prW S m p i).length:Nat):Int)+1:=IntWalk.i64_in _ (by omega)
    have HA2:∀q u,Hid (Lies ((wr.drewN q).setCell ⟨lo+1,1,none⟩ u) lo 31 [.int .i64 0,.int .i64 0]):=fun q u=>Lib.hid ((hA.out.drewN q).far (p:=⟨lo+1,1,none⟩) (by show lo≠lo+1;omega) _)
    have HB2:∀q u,Hid (Below lo w ((wr.drewN q).setCell ⟨lo+1,1,none⟩ u)):=fun q u=>Lib.hid ((below_drewN' hB.out q).setCell (p:=⟨lo+1,1,none⟩) (by show lo≤lo+1;omega) _)
    by_cases h0:0 < tmA S m p i
    · have g1:decide ((0:Int) < ((tmA S m p i:Nat):Int))=true:=decide_eq_true (by omega)
      have g2:decide (0 < tmA S m p i)=true:=decide_eq_true h0
      have HT2:∀q,Hid (Lies (((wr.drewN q).setCell ⟨lo+1,1,none⟩ (.int .i64 ((tmW S m p (i+1):Nat):Int))).setCell ⟨lo+1,0,none⟩ (.int .i64 ((((prW S m p i).length:Nat):Int)+1))) (lo+1) 31 [.int .i64 (((prW S m p (i+1)).length:Nat):Int),.int .i64 ((tmW S m p (i+1):Nat):Int)]):=fun q=>Lib.hid (by
       have e:(prW S m p (i+1)).length=(prW S m p i).length+1:=by rw [prW_hit h0,List.length_append];rfl
       rw [e,show (((prW S m p i).length+1:Nat):Int)=(((prW S m p i).length:Nat):Int)+1 by omega]
       exact ((hT.out.drewN q).put 1 _).put 0 _)
      have HA3:∀q u u',Hid (Lies (((wr.drewN q).setCell ⟨lo+1,1,none⟩ u).setCell ⟨lo+1,0,none⟩ u') lo 31 [.int .i64 0,.int .i64 0]):=fun q u u'=>Lib.hid ((HA2 q u).out.far (p:=⟨lo+1,0,none⟩) (by show lo≠lo+1;omega) _)
      have HB3:∀q u u',Hid (Below lo w (((wr.drewN q).setCell ⟨lo+1,1,none⟩ u).setCell ⟨lo+1,0,none⟩ u')):=fun q u u'=>Lib.hid ((HB2 q u).out.setCell (p:=⟨lo+1,0,none⟩) (by show lo≤lo+1;omega) _)
      obtain ⟨t1,ht1e⟩:∃t1,tmW S m p (i+1)=t1:=⟨_,rfl⟩
      rw [ht1e] at w1 HT2
      have HT1:=Lib.hid ht1e
      clear ht1e
      generalize tmW S m p i=t0 at*
      generalize tmA S m p i=ta at*
      clear hA hT hB hx ht1 hpl HA2 HB2
      go_wp2_with fail
      refine HC.out.mono ?_
      rintro e w3 ⟨rfl,q,rfl⟩
      have c1:=c1 q
      have c0:=c0 q (.int .i64 ((t1:Nat):Int))
      have f1:=f1 q
      have f0:=f0 q (.int .i64 ((t1:Nat):Int))
      go_wp2_with fail
      go_roundw
      case rel=>exact ⟨i+1,by omega,by go_num,HA3 _ _ _,by rw [HT1.out];exact HT2 _,HB3 _ _ _⟩
      case measure=>simp [intOf];omega
    · have g1:decide ((0:Int) < ((tmA S m p i:Nat):Int))=false:=decide_eq_false (by omega)
      have g2:decide (0 < tmA S m p i)=false:=decide_eq_false h0
      have HT2:∀q,Hid (Lies ((wr.drewN q).setCell ⟨lo+1,1,none⟩ (.int .i64 ((tmW S m p (i+1):Nat):Int))) (lo+1) 31 [.int .i64 (((prW S m p (i+1)).length:Nat):Int),.int .i64 ((tmW S m p (i+1):Nat):Int)]):=fun q=>Lib.hid (by
       rw [prW_miss h0]
       exact (hT.out.drewN q).put 1 _)
      obtain ⟨t1,ht1e⟩:∃t1,tmW S m p (i+1)=t1:=⟨_,rfl⟩
      rw [ht1e] at w1 HT2
      have HT1:=Lib.hid ht1e
      clear ht1e
      generalize tmW S m p i=t0 at*
      generalize tmA S m p i=ta at*
      clear hA hT hB hx ht1 hpl
      go_wp2_with fail
      refine HC.out.mono ?_
      rintro e w3 ⟨rfl,q,rfl⟩
      have c1:=c1 q
      have f1:=f1 q
      go_wp2_with fail
      go_roundw
      case rel=>exact ⟨i+1,by omega,by go_num,HA2 _ _,by rw [HT1.out];exact HT2 _,HB2 _ _⟩
      case measure=>simp [intOf];omega
  · obtain rfl:i=k:=by omega
    have hge:¬(i:Int) < (i:Int):=by omega
    have d0:=hT.out.cell 0
    have d1:=hT.out.cell 1
    have d2:wr.cell? ⟨lo,0,none⟩=some (.int .i64 0):=hA.out.cell 0
    have d3:wr.cell? ⟨lo,1,none⟩=some (.int .i64 0):=hA.out.cell 1
    have d4:=hA.out.free 0
    have d5:=hA.out.free 1
    have HB9:=Lib.hid ((hB.out.setCell (p:=⟨lo,0,none⟩) (Nat.le_refl _) (.int .i64 (((prW S m p i).length:Nat):Int))).setCell (p:=⟨lo,1,none⟩) (Nat.le_refl _) (.int .i64 ((tmW S m p i:Nat):Int)))
    have hE:=(hA.out.put 0 (.int .i64 (((prW S m p i).length:Nat):Int))).put 1 (.int .i64 ((tmW S m p i:Nat):Int))
    have HY:=Lib.hid (And.intro (hE.cell 0) (hE.cell 1))
    clear hT hA hB hE
    replace d0:wr.cell? ⟨lo+1,0,none⟩=some (.int .i64 (((prW S m p i).length:Nat):Int)):=d0
    replace d1:wr.cell? ⟨lo+1,1,none⟩=some (.int .i64 ((tmW S m p i:Nat):Int)):=d1
    go_wp2_with fail
    refine bodyPost_ret (v:=.agg #[.int .i64 (((prW S m p i).length:Nat):Int),.int .i64 ((tmW S m p i:Nat):Int)]) ?_ rfl ⟨rfl,HB9.out⟩
    obtain ⟨y0,y1⟩:=HY.out
    simp at y0 y1
    simp [results,Tryz.results14,go_sem,y0,y1]
def dcW (S:List Sec) (m:Nat) (p:Nat→Nat) (k:Nat):List Int:=(prW S m p k).map Prod.fst
theorem dcW_len (S:List Sec) (m:Nat) (p:Nat→Nat) (k:Nat):(dcW S m p k).length=(prW S m p k).length:=by unfold dcW;rw [List.length_map]
theorem dcW_hit {S:List Sec} {m:Nat} {p:Nat→Nat} {k:Nat} (h:0 < tmA S m p k):dcW S m p (k+1)=dcW S m p k++[(k:Int)]:=by unfold dcW;rw [prW_hit h,List.map_append];rfl
theorem dcW_miss {S:List Sec} {m:Nat} {p:Nat→Nat} {k:Nat} (h:¬0 < tmA S m p k):dcW S m p (k+1)=dcW S m p k:=by unfold dcW;rw [prW_miss h]
theorem refList19_any (P:Option Addr) (c:Nat) (L:List Part) (A:Option Addr) (m cp:Nat) (p:Nat→Nat) (w:World) (hL:L.length≤4000) (hS:lenT (docsP L)≤4000000) (ho:Secs w w.heap.size P L) (hm:0 < m) (hm4:m≤1000) (hp:Bys w w.heap.size A m p):
    Calls Tryz.prog 16 #[.slice P L.length c,.slice A m cp] w fun e w'=>∃u,e=.returned u∧w'.ownsRow w.heap.size 3 1 u (dcW (docsP L) m p L.length).length (icells (lstI (dcW (docsP L) m p L.length)) (dcW (docsP L) m p L.length).length)∧Below w.heap.size w w':=by
 have HO:=Lib.hid ho
 have HTi:Hid (∀(W:World) (d:Nat) (x:Part),Below w.heap.size w W→L[d]?=some x→Hid (Calls Tryz.prog 36 #[.slice x.A x.n x.c,.slice A m cp] W fun e w'=>e=.returned (.int .i64 ((tmA (docsP L) m p d:Nat):Int))∧∃k,w'=W.drewN k)):=Lib.hid fun W d x hb hd=>Lib.hid (refTimes_at P L A m cp p w W hb ho hm hm4 hS hp hd)
 obtain ⟨k,hk⟩:∃k,L.length=k:=⟨_,rfl⟩
 rw [hk] at hL ⊢
 have HK:=Lib.hid hk
 obtain ⟨lo,hlo⟩:∃lo,w.heap.size=lo:=⟨_,rfl⟩
 have HLo:=Lib.hid hlo
 rw [hlo] at HTi
 rw [hlo]
 generalize docsP L=S at*
 clear ho hk hS hp hm hm4 hlo
 go_enter Tryz.func16,Tryz.ntmps16
 go_wp2_with fail
 go_loopw [5,10] (fun u v wr=>∃i:Nat,i≤k∧v=.int .i64 (i:Int)∧Hid (wr.ownsRow lo 3 1 u (dcW S m p i).length (icells (lstI (dcW S m p i)) (dcW S m p i).length))∧Hid (Below lo w wr)) (fun _ v _=>k - (intOf v).toNat)
 case atStart=>exact ⟨0,Nat.zero_le _,rfl,Lib.hid (World.ownsRow_nil w _ _ _),Lib.hid (by rw [←HLo.out];exact Below.refl _ _)⟩
 case round=>
  obtain ⟨i,hi,rfl,hrow,hB⟩:=hrel
  by_cases hlt:i < k
  · have hlti:(i:Int) < (k:Int):=by omega
    obtain ⟨x,hx⟩:∃x,L[i]?=some x:=⟨_,List.getElem?_eq_getElem (by rw [HK.out];exact hlt)⟩
    obtain ⟨ad,rfl,_,hc,_⟩:=(HO.out.below (by rw [HLo.out];exact hB.out)) i x hx
    have HC:=HTi.out wr i x hB.out hx
    have hBs:lo≤wr.heap.size:=by have:=hB.out.size;rw [HLo.out] at this;exact this
    have hpl:(dcW S m p i).length≤4194304:=by rw [dcW_len];have:=prW_le S m p i;omega
    have hrw:∀q,Hid ((wr.drewN q).ownsRow lo 3 1 u5 (dcW S m p i).length (icells (lstI (dcW S m p i)) (dcW S m p i).length)):=fun q=>hrow
    have hBq:∀q,Hid (Below lo w (wr.drewN q)):=fun q=>Lib.hid (below_drewN' hB.out q)
    by_cases h0:0 < tmA S m p i
    · have g1:decide ((0:Int) < ((tmA S m p i:Nat):Int))=true:=decide_eq_true (by omega)
      have g2:decide (0 < tmA S m p i)=true:=decide_eq_true h0
      have HE:=Lib.hid (dcW_hit h0)
      generalize tmA S m p i=ta at*
      clear hrow hB hx
      go_wp2_with fail
      refine HC.out.mono ?_
      rintro e w3 ⟨rfl,q,rfl⟩
      go_wp2_with (at_builtin;refine step_append_int rfl (.tmp 19) (.tmp 21) rfl rfl (hrw q).out _ rfl hBs hpl ?_;intro v4 w4 hown4 hb4)
      have HR4:Hid (w4.ownsRow lo 3 1 v4 (dcW S m p (i+1)).length (icells (lstI (dcW S m p (i+1))) (dcW S m p (i+1)).length)):=Lib.hid (by
       rw [HE.out,List.length_append,show (dcW S m p i).length+[(i:Int)].length=(dcW S m p i).length+1 from rfl,icells_lstI_snoc]
       exact hown4)
      have HB4:Hid (Below lo w w4):=Lib.hid ((hBq q).out.trans hb4)
      go_roundw
      case rel=>exact ⟨i+1,by omega,by go_num,HR4,HB4⟩
      case measure=>simp [intOf];omega
    · have g1:decide ((0:Int) < ((tmA S m p i:Nat):Int))=false:=decide_eq_false (by omega)
      have g2:decide (0 < tmA S m p i)=false:=decide_eq_false h0
      have HE:=Lib.hid (dcW_miss h0)
      generalize tmA S m p i=ta at*
      clear hrow hB hx
      go_wp2_with fail
      refine HC.out.mono ?_
      rintro e w3 ⟨rfl,q,rfl⟩
      go_wp2_with fail
      go_roundw
      case rel=>exact ⟨i+1,by omega,by go_num,by rw [HE.out];exact hrw q,hBq q⟩
      case measure=>simp [intOf];omega
  · obtain rfl:i=k:=by omega
    have hge:¬(i:Int) < (i:Int):=by omega
    go_wp2_with fail
    go_ret
    exact ⟨_,rfl,hrow.out,hB.out⟩
theorem info_place:(Tryz.prog.info? 62).map (fun i=>(i.zero,i.size,i.bytes))=some (some (.agg #[.int .i64 0,.int .i64 0]),2,16):=by kernel_rfl
theorem step_append_place {ops:Array Oper} {rest:List Oper} {o:Oper} {a:Act} {Q:Exit→Act→World→Prop} (hgd:o.guard=none) (s x:Operand)
    (ho:o.op=.call { callee:=.builtin .append,args:=#[s,x],argTypes:=#[48,48] })
    {w:World} {B:Nat} {v:Value} {D:List (Int×Nat)} (hs:a.eval s=v) (hown:w.ownsRow B 62 2 v D.length (prcells D)) (y:Int) (z:Nat) (hx:a.eval x=.slice (some ⟨w.heap.size,0,none⟩) 1 1) (hB:B≤w.heap.size) (hi:D.length≤4194303)
    (h:∀v' w',Hid (w'.ownsRow B 62 2 v' (D++[(y,z)]).length (prcells (D++[(y,z)])))→Below B w w'→wpList Tryz.prog ops Q rest (a.put o.dst v') w'):
    wpList Tryz.prog ops Q (o::rest) a (w.alloc (.cells #[.int .i64 y,.int .i64 (z:Int)] 62)):=by
 obtain ⟨i0,hi0,hz0,hs0,hb0⟩:=info_parts info_place
 have hl:=lies_new w 62 [.int .i64 y,.int .i64 (z:Int)]
 refine wpList_append_own _ hgd s x 48 ho B 62 i0 (.agg #[.int .i64 0,.int .i64 0]) 2 16 Tryz.underlying48 hi0 hz0 hs0 hb0 rfl (by decide) v D.length (prcells D) hs (hown.alloc _) ⟨w.heap.size,0,none⟩ 1 1 [.int .i64 y,.int .i64 (z:Int)] hx rfl (fun j u hj=>by
     rcases j with _ | _ | j
     · have hj:some _=some u:=hj
       cases hj
       exact hl.cell 0
     · have hj:some _=some u:=hj
       cases hj
       exact hl.cell 1
     · simp at hj) (fun u hu=>by
     simp at hu
     rcases hu with rfl | rfl <;> rfl) (by unfold maxLen;omega) (by omega) (by rw [size_alloc];omega) (fun v' w' h2 h3 _=>?_)
 refine h v' w' (Lib.hid ?_) ?_
 · rw [List.length_append,prcells_append]
   exact h2
 · exact ((Below.refl _ _).alloc hB _).grown h3 (by rw [size_alloc];omega) (fun k hk=>(hown.lt k hk).1)
theorem refPlaces19_any (P:Option Addr) (c:Nat) (L:List Part) (A:Option Addr) (m cp:Nat) (p:Nat→Nat) (w:World) (hL:L.length≤4000) (hS:lenT (docsP L)≤4000000) (ho:Secs w w.heap.size P L) (hm:0 < m) (hm4:m≤1000) (hp:Bys w w.heap.size A m p):
    Calls Tryz.prog 26 #[.slice P L.length c,.slice A m cp] w fun e w'=>∃u,e=.returned u∧w'.ownsRow w.heap.size 62 2 u (plW (docsP L) m p L.length).length (prcells (plW (docsP L) m p L.length))∧Below w.heap.size w w':=by
 have HO:=Lib.hid ho
 have HP:=Lib.hid hp
 obtain ⟨k,hk⟩:∃k,L.length=k:=⟨_,rfl⟩
 have HTm:Hid (∀d,d≤k→tmW (docsP L) m p d≤4000000):=Lib.hid fun d hd=>by
  have h1:=tmW_le (docsP L) m p d (by rw [docsP_length,hk];exact hd)
  have h2:=offT_mono (S:=docsP L) (d:=d) (e:=(docsP L).length) (by rw [docsP_length,hk];exact hd) (Nat.le_refl _)
  unfold lenT at hS
  omega
 have HXn:Hid (∀(d:Nat) (x:Part),L[d]?=some x→(docsP L)[d]?=some x.sec∧x.n≤4000000):=Lib.hid fun d x hd=>by
  have hin:=offT_in (docsP_at hd)
  have hin:offT (docsP L) d+(x.n+1)≤lenT (docsP L):=hin
  exact ⟨docsP_at hd,by omega⟩
 rw [hk] at hL ⊢
 have HK:=Lib.hid hk
 obtain ⟨lo,hlo⟩:∃lo,w.heap.size=lo:=⟨_,rfl⟩
 have HLo:=Lib.hid hlo
 rw [hlo]
 generalize docsP L=S at*
 clear ho hk hS hp hlo
 go_enter Tryz.func26,Tryz.ntmps26
 go_wp2_with fail
 go_loopw [5,11] (fun u v wr=>∃i:Nat,i≤k∧v=.int .i64 (i:Int)∧Hid (wr.ownsRow lo 62 2 u (plW S m p i).length (prcells (plW S m p i)))∧Hid (Below lo w wr)) (fun _ v _=>k - (intOf v).toNat)
 case atStart=>exact ⟨0,Nat.zero_le _,rfl,Lib.hid (World.ownsRow_nil w _ _ _),Lib.hid (by rw [←HLo.out];exact Below.refl _ _)⟩
 case round=>
  obtain ⟨d,hd,rfl,hrow,hB⟩:=hrel
  by_cases hltd:d < k
  · have hltdi:(d:Int) < (k:Int):=by omega
    obtain ⟨x,hx⟩:∃x,L[d]?=some x:=⟨_,List.getElem?_eq_getElem (by rw [HK.out];exact hltd)⟩
    obtain ⟨ad,rfl,_,hc,hxc,hxm,_,hby⟩:=(HO.out.below (by rw [HLo.out];exact hB.out)) d x hx
    obtain ⟨hSx,hxn⟩:=HXn.out d x hx
    have HPa:Hid (plA S m p d=plD (occB x.sec m p) d (x.n+1)):=Lib.hid (plA_at hSx)
    have HTa:Hid (tmA S m p d=Pl.cnt (occB x.sec m p) (x.n+1)):=Lib.hid (tmA_at hSx)
    have ht1:=HTm.out (d+1) (by omega)
    have ht1:tmW S m p d+tmA S m p d≤4000000:=ht1
    have htl:(plW S m p d).length=tmW S m p d:=plW_len S m p d
    have HTl:=Lib.hid htl
    have HT1:=Lib.hid ht1
    have HX:Hid (Bys wr w.heap.size x.A x.n x.V):=Lib.hid hby
    obtain ⟨AX,n,cx,V⟩:=x
    dsimp only at hxc hxm hxn HX hc
    replace HPa:Hid (plA S m p d=plD (occB ⟨n,V⟩ m p) d (n+1)):=HPa
    replace HTa:Hid (tmA S m p d=Pl.cnt (occB ⟨n,V⟩ m p) (n+1)):=HTa
    have hcx:cx≤9223372036854775807:=by unfold maxLen at hxm;omega
    clear hx hSx hby ht1 htl
    go_wp2_with fail
    rename World=>wo
    go_loopw [5,8] (fun u v wi=>∃i:Nat,i≤n+1∧v=.int .i64 (i:Int)∧Hid (wi.ownsRow lo 62 2 u (plW S m p d++plD (occB ⟨n,V⟩ m p) d i).length (prcells (plW S m p d++plD (occB ⟨n,V⟩ m p) d i)))∧Hid (Below lo w wi)∧Hid (Bys wi w.heap.size AX n V)) (fun _ v _=>n+1 - (intOf v).toNat)
    case atStart=>exact ⟨0,Nat.zero_le _,rfl,by show Hid (_∧_);rw [show plW S m p d++plD (occB ⟨n,V⟩ m p) d 0=plW S m p d from List.append_nil _];exact hrow,hB,HX⟩
    case round=>
     clear hrow hB HX
     obtain ⟨i,hi,rfl,hrow,hB,HX⟩:=hrel
     rename World=>wi
     have e0:IntKind.i64.wrap ((i:Int)+(m:Int))=((i+m:Nat):Int):=by rw [IntWalk.i64_in _ (by omega)];omega
     obtain ⟨j,hj⟩:∃j,i+m=j:=⟨_,rfl⟩
     rw [hj] at e0
     by_cases hlt:j≤n
     · have hltj:decide ((j:Int)≤(n:Int))=true:=decide_eq_true (by omega)
       have hltk:decide (j≤n)=true:=decide_eq_true hlt
       obtain ⟨ax,rfl,_⟩:=HX.out 0 (by omega)
       have hcut:=HX.out.cutX (m:=i) (e:=m) (by omega)
       have hBy2:∀q,Hid (Bys (wi.drewN q) w.heap.size (some ax) n V):=fun q=>Lib.hid HX.out
       have hc1:∀q,(convert 23 9 (.slice (some (ax.add i)) m (cx - i))).run Tryz.prog (wi.drewN q)=.ok (.string (bstr (fun k=>V (i+k)) m)) (wi.drewN q):=fun q=>(show Bys (wi.drewN q) w.heap.size _ _ _ from hcut).conv _
       have hc2:∀q,(convert 23 9 (.slice A m cp)).run Tryz.prog (wi.drewN q)=.ok (.string (bstr p m)) (wi.drewN q):=fun q=>(HP.out.below (by rw [HLo.out];exact below_drewN' hB.out q)).conv _
       have hrw:∀q,Hid ((wi.drewN q).ownsRow lo 62 2 u5 (plW S m p d++plD (occB ⟨n,V⟩ m p) d i).length (prcells (plW S m p d++plD (occB ⟨n,V⟩ m p) d i))):=fun q=>hrow
       have hBq:∀q,Hid (Below lo w (wi.drewN q)):=fun q=>Lib.hid (below_drewN' hB.out q)
       have hBs:lo≤wi.heap.size:=by have:=hB.out.size;rw [HLo.out] at this;exact this
       have hfit:(plW S m p d++plD (occB ⟨n,V⟩ m p) d i).length≤4194303:=by
        rw [List.length_append,HTl.out,plD_len]
        have h1:=HT1.out
        rw [HTa.out] at h1
        have h2:Pl.cnt (occB ⟨n,V⟩ m p) i≤Pl.cnt (occB ⟨n,V⟩ m p) (n+1):=by
         obtain ⟨b,hb⟩:∃b,n+1=i+b:=⟨n+1 - i,by omega⟩
         rw [hb,Pl.cnt_add]
         omega
        omega
       have l1:(i:Int)≤(j:Int):=by omega
       have l2:i≤j:=by omega
       have l3:¬cx=i:=by omega
       have l4:j - i=m:=by omega
       have l5:j≤cx:=by omega
       have l6:(j:Int)≤(cx:Int):=by omega
       clear hcut
       by_cases hs:bstr (fun k=>V (i+k)) m=bstr p m
       · have hst:=str_same hs
         have HN:Hid (plD (occB ⟨n,V⟩ m p) d (i+1)=plD (occB ⟨n,V⟩ m p) d i++[((d:Int),i)]):=Lib.hid (plD_hit (occB_yes (x:=⟨n,V⟩) (by show i+m≤n;omega) hs))
         clear hs hrow hB HX
         go_wp2_with fail
         go_quiet (fail)
         go_wp2_with (at_builtin;refine step_append_place rfl (.tmp 36) (.tmp 40) rfl rfl (hrw _).out _ _ rfl hBs hfit ?_;intro v4 w4 hown4 hb4)
         have HR4:Hid (w4.ownsRow lo 62 2 v4 (plW S m p d++plD (occB ⟨n,V⟩ m p) d (i+1)).length (prcells (plW S m p d++plD (occB ⟨n,V⟩ m p) d (i+1)))):=Lib.hid (by
          rw [HN.out,←List.append_assoc]
          exact hown4.out)
         have HB4:Hid (Below lo w w4):=Lib.hid ((hBq _).out.trans hb4)
         have HX4:Hid (Bys w4 w.heap.size (some ax) n V):=Lib.hid (by rw [HLo.out];exact (show Bys _ lo _ _ _ by rw [←HLo.out];exact (hBy2 _).out).below hb4)
         go_roundw
         case rel=>exact ⟨i+1,by omega,by go_num,HR4,HB4,HX4⟩
         case measure=>simp [intOf];omega
       · have hst:=str_unlike hs
         have HN:Hid (plD (occB ⟨n,V⟩ m p) d (i+1)=plD (occB ⟨n,V⟩ m p) d i):=Lib.hid (plD_miss (occB_no (x:=⟨n,V⟩) hs))
         clear hs hrow hB HX
         go_wp2_with fail
         go_quiet (fail)
         go_wp2_with fail
         go_roundw
         case rel=>exact ⟨i+1,by omega,by go_num,by rw [HN.out];exact hrw _,hBq _,hBy2 _⟩
         case measure=>simp [intOf];omega
     · have hltj:decide ((j:Int)≤(n:Int))=false:=decide_eq_false (by omega)
       have hltk:decide (j≤n)=false:=decide_eq_false hlt
       have HE:Hid (plW S m p d++plD (occB ⟨n,V⟩ m p) d i=plW S m p (d+1)):=Lib.hid (by
        show _=plW S m p d++plA S m p d
        rw [HPa.out,plD_end (a:=i) (b:=n+1) hi fun q h1 _=>occB_out (x:=⟨n,V⟩) (by show ¬q+m≤n;omega)])
       rw [HE.out] at hrow
       go_wp2_with fail
       go_roundw
       case rel=>exact ⟨d+1,by omega,by go_num,hrow,hB⟩
       case measure=>simp [intOf];omega
  · obtain rfl:d=k:=by omega
    have hge:¬(d:Int) < (d:Int):=by omega
    go_wp2_with fail
    go_ret
    exact ⟨_,rfl,hrow.out,hB.out⟩
theorem refSame19_any (A A':Option Addr) (c c':Nat) (D:List (Int×Nat)) (w:World) (ho:PrsR w A D) (ho':PrsR w A' D):
    Calls Tryz.prog 25 #[.slice A D.length c,.slice A' D.length c'] w fun e w'=>e=.returned (.bool true)∧Below w.heap.size w w':=by
 have HO:=Lib.hid ho
 have HO':=Lib.hid ho'
 have hl:=ho.1
 obtain ⟨n,hn⟩:∃n,D.length=n:=⟨_,rfl⟩
 have HN:=Lib.hid hn
 rw [hn] at hl ⊢
 have g0:((n:Int) != (n:Int))=false:=by simp
 clear ho ho' hn
 go_enter Tryz.func25,Tryz.ntmps25
 go_wp2_with fail
 go_loopw [13] (fun v wr=>∃i:Nat,i≤n∧v=.int .i64 (i:Int)∧Hid (Below w.heap.size w wr)) (fun v _=>n - (intOf v).toNat)
 case atStart=>exact ⟨0,Nat.zero_le _,rfl,Lib.hid (Below.refl _ _)⟩
 case round=>
  obtain ⟨i,hi,rfl,hb⟩:=hrel
  by_cases hlt:i < n
  · have hlti:(i:Int) < (n:Int):=by omega
    obtain ⟨d,hd⟩:∃d,D[i]?=some d:=⟨_,List.getElem?_eq_getElem (by rw [HN.out];exact hlt)⟩
    obtain ⟨g,o,rfl,_,c1',c2',_⟩:=(HO.out.below hb.out).2 i d hd
    obtain ⟨g',o',rfl,_,c3',c4',_⟩:=(HO'.out.below hb.out).2 i d hd
    have HB2:∀t,Hid (Below w.heap.size w (wr.drewN t)):=fun t=>Lib.hid (below_drewN' hb.out t)
    obtain ⟨x,y⟩:=d
    have c1:wr.cell? ⟨g,o+i*2,none⟩=some (.int .i64 x):=c1'
    have c2:wr.cell? ⟨g,o+i*2+1,none⟩=some (.int .i64 (y:Int)):=c2'
    have c3:wr.cell? ⟨g',o'+i*2,none⟩=some (.int .i64 x):=c3'
    have c4:wr.cell? ⟨g',o'+i*2+1,none⟩=some (.int .i64 (y:Int)):=c4'
    clear hd hb c1' c2' c3' c4'
    go_wp2_with fail
    go_quiet (fail)
    go_wp2_with fail
    go_roundw
    case rel=>exact ⟨i+1,by omega,by go_num,HB2 _⟩
    case measure=>simp [intOf];omega
  · have hge:¬(i:Int) < (n:Int):=by omega
    go_wp2_with fail
    go_ret
    exact ⟨rfl,hb.out⟩
end Go.Proofs.YtcidobpbepeakaaGreat

namespace Go.Proofs.YtcidobpbepeakaaGreat
open Go.RowKit
structure RkT (w0 w:World) (B:Nat) (u:Value) (i:Nat) (R:List (Int×Nat)):Prop where
 own:w.ownsRow B 60 2 u i (prcells R)
 below:Below B w0 w
theorem RkT.put {w0 w:World} {B g M cg:Nat} {R R':List (Int×Nat)} (h:RkT w0 w B (.slice (some ⟨g,0,none⟩) M cg) M R) (j:Nat) (x:Int) (y:Nat) (hR:R.set j (x,y)=R'):RkT w0 ((w.setCell ⟨g,j*2,none⟩ (.int .i64 x)).setCell ⟨g,j*2+1,none⟩ (.int .i64 (y:Int))) B (.slice (some ⟨g,0,none⟩) M cg) M R':=by
 have hgB:=(h.own.lt g rfl).1
 have ho:=owns_put2 (owns_put2 h.own (j*2) (.int .i64 x)) (j*2+1) (.int .i64 (y:Int))
 rw [prcells_set2 R j (x,y),hR] at ho
 exact ⟨ho,(h.below.setCell (p:=⟨g,j*2,none⟩) hgB _).setCell (p:=⟨g,j*2+1,none⟩) hgB _⟩
def TopPost (w:World) (E:List (Int×Nat)) (K:Int) (e:Ending) (w':World):Prop:=
 (∃(A:Option Addr) (c:Nat) (R T:List (Int×Nat)),e=.returned (.slice A T.length c)∧RkOf E R∧T=R.take K.toNat∧PrsR w' A T)∧Below w.heap.size w w'
theorem PrsR.take {w:World} {A:Option Addr} {D:List (Int×Nat)} (h:PrsR w A D) (k:Nat):PrsR w A (D.take k):=⟨by rw [List.length_take];have:=h.1;omega,fun i d hd=>by
 have hik:i < k:=by
  have:=(List.getElem?_eq_some_iff.1 hd).1
  rw [List.length_take] at this
  omega
 rw [List.getElem?_take_of_lt hik] at hd
 exact h.2 i d hd⟩
theorem refTop19_any (P:Option Addr) (c:Nat) (L:List Part) (A:Option Addr) (m cp:Nat) (p:Nat→Nat) (K:Int) (w:World) (hK1:1≤K) (hKw:(Lit.int .i64 K).wf=true) (hL:L.length≤4000) (hS:lenT (docsP L)≤4000000) (ho:Secs w w.heap.size P L) (hm:0 < m) (hm4:m≤1000) (hp:Bys w w.heap.size A m p):
    Calls Tryz.prog 19 #[.slice P L.length c,.slice A m cp,.int .i64 K] w (TopPost w (prW (docsP L) m p L.length) K):=by
 have HO:=Lib.hid ho
 have HTi:Hid (∀(W:World) (d:Nat) (x:Part),Below w.heap.size w W→L[d]?=some x→Hid (Calls Tryz.prog 36 #[.slice x.A x.n x.c,.slice A m cp] W fun e w'=>e=.returned (.int .i64 ((tmA (docsP L) m p d:Nat):Int))∧∃k,w'=W.drewN k)):=Lib.hid fun W d x hb hd=>Lib.hid (refTimes_at P L A m cp p w W hb ho hm hm4 hS hp hd)
 obtain ⟨k,hk⟩:∃k,L.length=k:=⟨_,rfl⟩
 have HTm:Hid (∀d,d≤k→tmW (docsP L) m p d≤4000000):=Lib.hid fun d hd=>by
  have h1:=tmW_le (docsP L) m p d (by rw [docsP_length,hk];exact hd)
  have h2:=offT_mono (S:=docsP L) (d:=d) (e:=(docsP L).length) (by rw [docsP_length,hk];exact hd) (Nat.le_refl _)
  unfold lenT at hS
  omega
 rw [hk] at hL ⊢
 have HK:=Lib.hid hk
 have hKm:=i64_in hKw
 obtain ⟨lo,hlo⟩:∃lo,w.heap.size=lo:=⟨_,rfl⟩
 have HLo:=Lib.hid hlo
 rw [hlo] at HTi
 generalize docsP L=S at*
 clear ho hk hS hp hm hm4 hlo hKw
 go_enter Tryz.func19,Tryz.ntmps19
 go_wp2_with fail
 go_loopw [7,15] (fun u v wr=>∃(i:Nat) (R:List (Int×Nat)),i≤k∧v=.int .i64 (i:Int)∧Hid (RkOf (prW S m p i) R)∧Hid (RkT w wr lo u R.length R)) (fun _ v _=>k - (intOf v).toNat)
 case atStart=>exact ⟨0,[],Nat.zero_le _,rfl,Lib.hid RkOf.none,Lib.hid ⟨World.ownsRow_nil w _ _ _,by rw [←HLo.out];exact Below.refl _ _⟩⟩
 case round=>
  obtain ⟨i,R,hi,rfl,hR,hT⟩:=hrel
  by_cases hlt:i < k
  · have hlti:(i:Int) < (k:Int):=by omega
    obtain ⟨x,hx⟩:∃x,L[i]?=some x:=⟨_,List.getElem?_eq_getElem (by rw [HK.out];exact hlt)⟩
    obtain ⟨ad,rfl,_,hc,_⟩:=(HO.out.below (by rw [HLo.out];exact hT.out.below)) i x hx
    have HC:=HTi.out wr i x hT.out.below hx
    have hRl:R.length≤i:=by rw [hR.out.len];exact prW_le S m p i
    have HTq:∀q,Hid (RkT w (wr.drewN q) lo u7 R.length R):=fun q=>Lib.hid ⟨hT.out.own,below_drewN' hT.out.below q⟩
    have ht1:=HTm.out (i+1) (by omega)
    have ht1:tmW S m p i+tmA S m p i≤4000000:=ht1
    have hta:tmA S m p i≤4000000:=by omega
    by_cases h0:0 < tmA S m p i
    · have g0:(((tmA S m p i:Nat):Int)==0)=false:=by rw [beq_eq_false_iff_ne];omega
      have g1:¬((tmA S m p i:Nat):Int)=0:=by omega
      have g2:¬tmA S m p i=0:=by omega
      have HE:=Lib.hid (prW_hit h0)
      obtain ⟨t,ht⟩:∃t,tmA S m p i=t:=⟨_,rfl⟩
      rw [ht] at HC HE g0 g1 g2 hta
      obtain ⟨n,hn⟩:∃n,R.length=n:=⟨_,rfl⟩
      rw [hn] at HTq hRl
      have HN:=Lib.hid hn
      clear hT hx ht h0 ht1 hn
      obtain ⟨Y,cY,hY⟩:∃Y cY,u7=.slice Y n cY:=by
       rcases owns_slice2 (HTq 0).out.own with ⟨h,e⟩ | ⟨g,c,e,_⟩
       · exact ⟨none,0,by rw [e,h]⟩
       · exact ⟨_,_,e⟩
      subst hY
      go_wp2_with fail
      refine HC.out.mono ?_
      rintro e w3 ⟨rfl,q,rfl⟩
      have HT0:=HTq q
      obtain ⟨wz,hwz⟩:∃wz,wr.drewN q=wz:=⟨_,rfl⟩
      rw [hwz] at HT0 ⊢
      clear HTq hwz hc HC
      go_upto_block 2 with (fail)
      go_cut [11] from 25 to 39 (fun v wy=>∃a:Nat,a≤n∧v=.int .i64 (a:Int)∧Hid (RkT w wy lo (.slice Y n cY) n R)∧Hid ((∀j d,j < a→R[j]?=some d→t≤d.2)∧∀d,R[a]?=some d→d.2 < t))
      case first=>
       go_wp2_with fail
       go_loopw [11] (fun v wy=>∃a:Nat,a≤n∧v=.int .i64 (a:Int)∧Hid (RkT w wy lo (.slice Y n cY) n R)∧Hid (∀j d,j < a→R[j]?=some d→t≤d.2)) (fun v _=>n - (intOf v).toNat)
       case atStart=>exact ⟨0,Nat.zero_le _,rfl,HT0,Lib.hid fun j d hj _=>absurd hj (Nat.not_lt_zero j)⟩
       case round=>
        clear HT0
        obtain ⟨a,ha,rfl,hS,hlow⟩:=hrel
        rename World=>wy
        by_cases hpi:a < n
        · have hpii:(a:Int) < (n:Int):=by omega
          obtain ⟨g,c',e',_⟩:∃g c,Value.slice Y n cY=.slice (some ⟨g,0,none⟩) n c∧lo≤g∧g < wy.heap.size:=by
           rcases owns_slice2 hS.out.own with ⟨h0,_⟩ | h
           · omega
           · exact h
          cases e'
          obtain ⟨d,hd⟩:∃d,R[a]?=some d:=⟨_,List.getElem?_eq_getElem (by rw [HN.out];exact hpi)⟩
          have hc1:wy.cell? ⟨g,a*2+1,none⟩=some (.int .i64 ((d.2:Nat):Int)):=by
           have h:=hS.out.own.cells rfl (a*2+1) _ (prcells_at hd).2
           rw [Addr.add_mid,Nat.zero_add] at h
           exact h
          obtain ⟨x,y⟩:=d
          replace hc1:wy.cell? ⟨g,a*2+1,none⟩=some (.int .i64 (y:Int)):=hc1
          by_cases hyt:t≤y
          · have b1:decide ((t:Int)≤(y:Int))=true:=decide_eq_true (by omega)
            have b2:decide (t≤y)=true:=decide_eq_true hyt
            have HL2:Hid (∀j d,j < a+1→R[j]?=some d→t≤d.2):=Lib.hid fun j d hj hd2=>by
             by_cases e:j=a
             · rw [e,hd] at hd2
               cases hd2
               exact hyt
             · exact hlow.out j d (by omega) hd2
            clear hlow hd
            go_wp2_with fail
            go_roundw
            case rel=>exact ⟨a+1,by omega,by go_num,hS,HL2⟩
            case measure=>simp [intOf];omega
          · have b1:decide ((t:Int)≤(y:Int))=false:=decide_eq_false (by omega)
            have b2:decide (t≤y)=false:=decide_eq_false hyt
            have HT:Hid ((∀j d,j < a→R[j]?=some d→t≤d.2)∧∀d,R[a]?=some d→d.2 < t):=Lib.hid ⟨hlow.out,fun d hd2=>by
             rw [hd] at hd2
             cases hd2
             show y < t
             omega⟩
            clear hlow hd
            go_wp2_with fail
            go_meet
            exact ⟨a,ha,rfl,hS,HT⟩
        · have b1:decide ((a:Int) < (n:Int))=false:=decide_eq_false (by omega)
          have b1':¬(a:Int) < (n:Int):=by omega
          have b2:decide (a < n)=false:=decide_eq_false hpi
          have HT:Hid ((∀j d,j < a→R[j]?=some d→t≤d.2)∧∀d,R[a]?=some d→d.2 < t):=Lib.hid ⟨hlow.out,fun d hd2=>by
           have:=(List.getElem?_eq_some_iff.1 hd2).1
           have:=HN.out
           omega⟩
          clear hlow
          go_wp2_with fail
          go_meet
          exact ⟨a,ha,rfl,hS,HT⟩
      case rest=>
       clear HT0
       obtain ⟨a,ha,rfl,hS,hT⟩:=hcut
       rename World=>wy
       have hBz:lo≤wy.heap.size:=by have:=hS.out.below.size;rw [HLo.out] at this;exact this
       have hi4:n≤4194304:=by omega
       obtain ⟨M,hM⟩:∃M,n+1=M:=⟨_,rfl⟩
       have HM:=Lib.hid hM
       have hiM:n < M:=by omega
       have hM4:M≤4194304:=by omega
       have w1':IntKind.i64.wrap ((M:Int) - 1)=(n:Int):=by rw [IntWalk.i64_in _ (by omega)];omega
       have HNx:Hid (RkOf (prW S m p (i+1)) (R.take a++((i:Int),t)::R.drop a)):=Lib.hid (by
        rw [HE.out]
        exact hR.out.ins (by rw [HN.out];exact ha) (fun d hd=>by
         obtain ⟨j,h1,_,rfl⟩:=mem_prW.1 hd
         show (j:Int) < (i:Int)
         omega) hT.out.1 hT.out.2)
       clear hM hT hR HE
       go_wp2_with (at_builtin;refine step_append_pair0 rfl (.tmp 40) (.tmp 42) rfl rfl hS.out.own rfl hBz hi4 M HM.out ?_;intro g cg w4 hown4 hgr4 hb4)
       have HS4:Hid (RkT w w4 lo (.slice (some ⟨g,0,none⟩) M cg) M (R.take n++(0,0)::R.drop n)):=Lib.hid (by
        refine ⟨?_,hS.out.below.trans hb4⟩
        have h:=hown4.out
        rw [List.take_of_length_le (by rw [HN.out];exact Nat.le_refl _),List.drop_of_length_le (by rw [HN.out];exact Nat.le_refl _),prcells_append]
        exact h)
       have hcg:=owns_room2' hown4.out
       have hcgm:cg≤9223372036854775807:=by have:=hcg.2;unfold maxLen at this;omega
       have hcgl:=hcg.1
       clear hS hown4 hgr4 hb4 hBz hcg
       rename World=>wx
       go_loopw [12] (fun v wr=>∃(q:Nat) (y:Int×Nat),a≤q∧q≤n∧v=.int .i64 (q:Int)∧Hid (RkT w wr lo (.slice (some ⟨g,0,none⟩) M cg) M (R.take q++y::R.drop q))) (fun v _=>(intOf v).toNat)
       case atStart=>exact ⟨n,(0,0),ha,Nat.le_refl _,rfl,HS4⟩
       case round=>
        clear HS4
        obtain ⟨q,y,hpq,hqi,rfl,hS⟩:=hrel
        rename World=>wv
        by_cases hlt2:a < q
        · have hlti2:(a:Int) < (q:Int):=by omega
          obtain ⟨q',rfl⟩:∃q',q=q'+1:=⟨q - 1,by omega⟩
          have w2:IntKind.i64.wrap (((q'+1:Nat):Int) - 1)=(q':Int):=by rw [IntWalk.i64_in _ (by omega)];omega
          obtain ⟨d,hd⟩:∃d,R[q']?=some d:=⟨_,List.getElem?_eq_getElem (by rw [HN.out];omega)⟩
          have hcA:=prcells_at (shift_low y hd)
          have hcB:=prcells_at (shift_at (R:=R) (q:=q'+1) y (by rw [HN.out];exact hqi))
          obtain ⟨x1,x2⟩:=d
          obtain ⟨y1,y2⟩:=y
          have c1:wv.cell? ⟨g,q'*2,none⟩=some (.int .i64 x1):=by
           have h:=hS.out.own.cells rfl (q'*2) _ hcA.1
           rw [Addr.add_mid,Nat.zero_add] at h
           exact h
          have c2:wv.cell? ⟨g,q'*2+1,none⟩=some (.int .i64 (x2:Int)):=by
           have h:=hS.out.own.cells rfl (q'*2+1) _ hcA.2
           rw [Addr.add_mid,Nat.zero_add] at h
           exact h
          have c3:wv.cell? ⟨g,(q'+1)*2,none⟩=some (.int .i64 y1):=by
           have h:=hS.out.own.cells rfl ((q'+1)*2) _ hcB.1
           rw [Addr.add_mid,Nat.zero_add] at h
           exact h
          have c4:wv.cell? ⟨g,(q'+1)*2+1,none⟩=some (.int .i64 (y2:Int)):=by
           have h:=hS.out.own.cells rfl ((q'+1)*2+1) _ hcB.2
           rw [Addr.add_mid,Nat.zero_add] at h
           exact h
          have f1:=owns_free2 hS.out.own ((q'+1)*2)
          have f2:=owns_free2 hS.out.own ((q'+1)*2+1)
          have HNn:Hid (RkT w ((wv.setCell ⟨g,(q'+1)*2,none⟩ (.int .i64 x1)).setCell ⟨g,(q'+1)*2+1,none⟩ (.int .i64 (x2:Int))) lo (.slice (some ⟨g,0,none⟩) M cg) M (R.take q'++(x1,x2)::R.drop q')):=Lib.hid (hS.out.put (q'+1) x1 x2 (shift_down hd))
          generalize hq1:q'+1=q1 at w2 c3 c4 f1 f2 hlti2 hlt2 hqi hpq HNn
          have b1:(q':Int) < (M:Int):=by omega
          have b2:(q1:Int) < (M:Int):=by omega
          have b3:q' < M:=by omega
          have b4:q1 < M:=by omega
          have b5:a≤q':=by omega
          have b6:q'≤n:=by omega
          have b7:q' < q1:=by omega
          clear hcA hcB hd hq1 hS
          go_wp2_with fail
          go_roundw
          case rel=>exact ⟨q',(x1,x2),b5,b6,rfl,HNn⟩
          case measure=>simp [intOf];omega
        · have hqp:q=a:=by omega
          subst hqp
          have hge:¬(q:Int) < (q:Int):=by omega
          have hcB:=prcells_at (shift_at (R:=R) (q:=q) y (by rw [HN.out];exact hqi))
          obtain ⟨y1,y2⟩:=y
          have c3:wv.cell? ⟨g,q*2,none⟩=some (.int .i64 y1):=by
           have h:=hS.out.own.cells rfl (q*2) _ hcB.1
           rw [Addr.add_mid,Nat.zero_add] at h
           exact h
          have c4:wv.cell? ⟨g,q*2+1,none⟩=some (.int .i64 (y2:Int)):=by
           have h:=hS.out.own.cells rfl (q*2+1) _ hcB.2
           rw [Addr.add_mid,Nat.zero_add] at h
           exact h
          have f1:=owns_free2 hS.out.own (q*2)
          have f2:=owns_free2 hS.out.own (q*2+1)
          have HNn:Hid (RkT w ((wv.setCell ⟨g,q*2,none⟩ (.int .i64 (i:Int))).setCell ⟨g,q*2+1,none⟩ (.int .i64 (t:Int))) lo (.slice (some ⟨g,0,none⟩) M cg) M (R.take q++((i:Int),t)::R.drop q)):=Lib.hid (hS.out.put q (i:Int) t (shift_put ((i:Int),t) (y1,y2) (by rw [HN.out];exact hqi)))
          have HLn:Hid ((R.take q++((i:Int),t)::R.drop q).length=M):=Lib.hid (by rw [shift_len _ (by rw [HN.out];exact hqi),HN.out];exact HM.out)
          have b1:(q:Int) < (M:Int):=by omega
          have b4:q < M:=by omega
          clear hcB hS
          go_wp2_with fail
          go_roundw
          case rel=>exact ⟨i+1,_,by omega,by go_num,HNx,by rw [HLn.out];exact HNn⟩
          case measure=>simp [intOf];omega
    · have g0:(((tmA S m p i:Nat):Int)==0)=true:=by rw [beq_iff_eq];omega
      have g1:((tmA S m p i:Nat):Int)=0:=by omega
      have g2:tmA S m p i=0:=by omega
      have HE:=Lib.hid (prW_miss h0)
      rw [g2] at HC
      clear hT hx h0 g0 g1 g2
      go_wp2_with fail
      refine HC.out.mono ?_
      rintro e w3 ⟨rfl,q,rfl⟩
      go_wp2_with fail
      go_roundw
      case rel=>exact ⟨i+1,R,by omega,by go_num,by rw [HE.out];exact hR,HTq q⟩
      case measure=>simp [intOf];omega
  · obtain rfl:i=k:=by omega
    have hge:¬(i:Int) < (i:Int):=by omega
    obtain ⟨n,hn⟩:∃n,R.length=n:=⟨_,rfl⟩
    rw [hn] at hT
    have hni:n≤i:=by rw [←hn,hR.out.len];exact prW_le S m p i
    obtain ⟨Y,cY,hY⟩:∃Y cY,u7=.slice Y n cY:=by
     rcases owns_slice2 hT.out.own with ⟨h,e⟩ | ⟨g,c,e,_⟩
     · exact ⟨none,0,by rw [e,h]⟩
     · exact ⟨_,_,e⟩
    subst hY
    have hcY:n≤cY∧cY≤maxLen:=owns_room2' hT.out.own
    have hcm:cY≤9223372036854775807:=by have:=hcY.2;unfold maxLen at this;omega
    have hcl:=hcY.1
    have HPr:Hid (PrsR wr Y R):=Lib.hid (by
     have h:=hT.out.own
     rw [←hn] at h
     obtain ⟨A2,c2,e,h2⟩:=PrsR.of_own h (by rw [hn];omega) (fun d hd=>by
      obtain ⟨j,h1,_,rfl⟩:=mem_prW.1 ((hR.out.mem d).1 hd)
      have ht1:=HTm.out (j+1) (by omega)
      have ht1:tmW S m p j+tmA S m p j≤4000000:=ht1
      show tmA S m p j≤4194304
      omega)
     injection e with e1 e2 e3
     rw [e1]
     exact h2)
    have HB:Hid (Below lo w wr):=Lib.hid hT.out.below
    have HN:=Lib.hid hn
    obtain ⟨q,hq⟩:∃q,(R.take K.toNat).length=q:=⟨_,rfl⟩
    have hqK:(q:Int)=min K (n:Int):=by rw [←hq,List.length_take,hn];omega
    have HQ:=Lib.hid hq
    have hqn:q≤n:=by omega
    have hqc:q≤cY:=by omega
    have HFin:Hid (TopPost w (prW S m p i) K (.returned (.slice Y q cY)) wr):=Lib.hid ⟨⟨Y,cY,R,_,by rw [HQ.out],hR.out,rfl,HPr.out.take _⟩,by rw [HLo.out];exact HB.out⟩
    clear hn hT hR HPr hq hcY
    by_cases hkn:(n:Int) < K
    · have hqn2:q=n:=by omega
      subst hqn2
      clear hqK
      go_wp2_with fail
      go_ret
      exact HFin.out
    · have hqK2:K=(q:Int):=by omega
      subst hqK2
      clear hqK
      go_wp2_with fail
      go_ret
      exact HFin.out
end Go.Proofs.YtcidobpbepeakaaGreat

namespace Go.Proofs.YtcidobpbepeakaaGreat
open Go.RowKit
def RightT (S:List Sec):Prop:=S.length≤256∧bytesT S≤65536
section
variable {At:Nat→World→Value→List Sec→Prop}
end
end Go.Proofs.YtcidobpbepeakaaGreat

namespace Go.Proofs.YtcidobpbepeakaaGreat
open Go.RowKit
theorem docI_at {S:List Sec} {d o:Nat} {x:Sec} (h:S[d]?=some x) (ho:o≤x.n):docI S ((offT S d+o:Nat):Int)=((d:Int),(o:Int)):=by
 unfold docI
 rw [if_neg (by omega),Int.toNat_natCast,locT_at h ho]
theorem wf_nat {n:Nat} (h:n≤4194304):(Lit.int .i64 (n:Int)).wf=true:=by simp [Lit.wf,IntKind.min,IntKind.max,IntKind.bits,IntKind.signed];omega
section
variable {At:Nat→World→Value→List Sec→Prop}
end
end Go.Proofs.YtcidobpbepeakaaGreat

namespace Go.Proofs.YtcidobpbepeakaaGreat
open Go.RowKit
def RightQ (n:Nat):Prop:=1≤n∧n≤256
structure IdxI (At:Nat→World→Value→List Sec→Prop):Prop where
 keep_:∀ {B:Nat} {w w':World} {v:Value} {S:List Sec},At B w v S→w.heap.size≤w'.heap.size→(∀k,B≤k→k < w.heap.size→w'.heap[k]?=w.heap[k]?)→At B w' v S
 ptr:∀ {B:Nat} {w:World} {v:Value} {S:List Sec},At B w v S→∃a,v=.pointer (some a)
 fit:∀ {B:Nat} {w:World} {v:Value} {S:List Sec},At B w v S→RightT S∧∀x∈S,∀k,k < x.n→x.V k < 256
 build:∀(P:Option Addr) (c:Nat) (L:List Part) (w:World),L.length≤c→c≤maxLen→(P=none→L=[]∧c=0)→Secs w w.heap.size P L→Calls Tryz.prog 10 #[.slice P L.length c] w fun e w'=>
  (RightT (docsP L)→∃v,e=.returned (.tuple #[v,.int .i64 0])∧At w.heap.size w' v (docsP L))∧(¬RightT (docsP L)→e=.returned (.tuple #[.pointer none,.int .i64 80]))∧Below w.heap.size w w'
 right:∀(A:Option Addr) (n c:Nat) (V:Nat→Nat) (w:World),n≤maxLen→(A=none→n=0∧c=0)→Bys w w.heap.size A n V→Calls Tryz.prog 13 #[.slice A n c] w fun e w'=>e=.returned (.bool (decide (1≤n∧n≤256)))∧Below w.heap.size w w'
 range_:∀(B:Nat) (v:Value) (S:List Sec) (A:Option Addr) (n c:Nat) (V:Nat→Nat) (w:World),At B w v S→n≤4000000→(A=none→n=0∧c=0)→Bys w w.heap.size A n V→Calls Tryz.prog 21 #[v,.slice A n c] w fun e w'=>
  (RightQ n→∃s,IsSA (symI S) (lenT S) s∧e=.returned (.tuple #[.int .i64 (((rngF (fun i=>stB (symI S) (lenT S) (patI S.length V) n (s i)) (lenT S)).1:Nat):Int),.int .i64 (((rngF (fun i=>stB (symI S) (lenT S) (patI S.length V) n (s i)) (lenT S)).2:Nat):Int)]))∧
  (¬RightQ n→e=.returned (.tuple #[.int .i64 0,.int .i64 0]))∧Below w.heap.size w w'
 count:∀(B:Nat) (v:Value) (S:List Sec) (A:Option Addr) (n c:Nat) (V:Nat→Nat) (w:World),At B w v S→n≤4000000→(A=none→n=0∧c=0)→Bys w w.heap.size A n V→Calls Tryz.prog 11 #[v,.slice A n c] w fun e w'=>
  (RightQ n→e=.returned (.tuple #[.agg #[.int .i64 (((prW S n V S.length).length:Nat):Int),.int .i64 ((tmW S n V S.length:Nat):Int)],.int .i64 0]))∧
  (¬RightQ n→e=.returned (.tuple #[.agg #[.int .i64 0,.int .i64 0],.int .i64 210]))∧Below w.heap.size w w'
 list:∀(B:Nat) (v:Value) (S:List Sec) (A:Option Addr) (n c:Nat) (V:Nat→Nat) (w:World),At B w v S→n≤4000000→(A=none→n=0∧c=0)→Bys w w.heap.size A n V→Calls Tryz.prog 12 #[v,.slice A n c] w fun e w'=>
  (RightQ n→∃(A':Option Addr) (c':Nat),e=.returned (.tuple #[.slice A' (dcW S n V S.length).length c',.int .i64 0])∧ItsR w' A' (dcW S n V S.length).length c' (lstI (dcW S n V S.length)))∧
  (¬RightQ n→∃(A':Option Addr) (c':Nat),e=.returned (.tuple #[.slice A' 0 c',.int .i64 210]))∧Below w.heap.size w w'
 top:∀(B:Nat) (v:Value) (S:List Sec) (A:Option Addr) (n c:Nat) (V:Nat→Nat) (K:Int) (w:World),At B w v S→n≤4000000→(A=none→n=0∧c=0)→Bys w w.heap.size A n V→(Lit.int .i64 K).wf=true→Calls Tryz.prog 17 #[v,.slice A n c,.int .i64 K] w fun e w'=>
  (RightQ n∧1≤K→∃(A':Option Addr) (c':Nat) (R T:List (Int×Nat)),e=.returned (.tuple #[.slice A' T.length c',.int .i64 0])∧(T.length≤c'∧c'≤maxLen)∧RkOf (prW S n V S.length) R∧T=R.take K.toNat∧PrsR w' A' T)∧
  (¬(RightQ n∧1≤K)→∃(A':Option Addr) (c':Nat),e=.returned (.tuple #[.slice A' 0 c',.int .i64 210]))∧Below w.heap.size w w'
 places:∀(B:Nat) (v:Value) (S:List Sec) (A:Option Addr) (n c:Nat) (V:Nat→Nat) (w:World),At B w v S→n≤4000000→(A=none→n=0∧c=0)→Bys w w.heap.size A n V→Calls Tryz.prog 20 #[v,.slice A n c] w fun e w'=>
  (RightQ n→∃(A':Option Addr) (c':Nat),e=.returned (.tuple #[.slice A' (plW S n V S.length).length c',.int .i64 0])∧PrsR w' A' (plW S n V S.length))∧
  (¬RightQ n→∃(A':Option Addr) (c':Nat),e=.returned (.tuple #[.slice A' 0 c',.int .i64 210]))∧Below w.heap.size w w'
section
variable {At:Nat→World→Value→List Sec→Prop}
theorem IdxI.keep (I:IdxI At) {B:Nat} {w w':World} {v:Value} {S:List Sec} (h:At B w v S) (hb:Below w.heap.size w w'):At B w' v S:=I.keep_ h hb.size fun k _ hk=>hb.block k hk
theorem RkOf.one {E R R':List (Int×Nat)} (h:RkOf E R) (h':RkOf E R'):R=R':=bet_one h.rise h'.rise fun d=>by rw [h.mem,h'.mem]
def ixX (g:Nat):List Part:=[⟨some ⟨g,0,none⟩,6,6,ofList [98,97,110,97,110,97]⟩,⟨some ⟨g+1,0,none⟩,6,6,ofList [97,110,97,110,97,115]⟩,⟨some ⟨g+2,0,none⟩,3,3,ofList [110,97,98]⟩]
def ixS:List Sec:=[⟨6,ofList [98,97,110,97,110,97]⟩,⟨6,ofList [97,110,97,110,97,115]⟩,⟨3,ofList [110,97,98]⟩]
def ix1:Obj:=.cells #[.int .u8 98,.int .u8 97,.int .u8 110,.int .u8 97,.int .u8 110,.int .u8 97] 5 (6,7)
def ix2:Obj:=.cells #[.int .u8 97,.int .u8 110,.int .u8 97,.int .u8 110,.int .u8 97,.int .u8 115] 5 (6,7)
def ix3:Obj:=.cells #[.int .u8 110,.int .u8 97,.int .u8 98] 5 (3,4)
theorem ixX_docs (g:Nat):docsP (ixX g)=ixS:=rfl
theorem ixS_right:RightT ixS:=⟨by decide,by decide⟩
theorem ixS_an:prW ixS 2 (ofList [97,110]) 3=[(0,2),(1,2)]∧tmW ixS 2 (ofList [97,110]) 3=4:=by decide+kernel
theorem ixS_a:prW ixS 1 (ofList [97]) 3=[(0,3),(1,3),(2,1)]:=by decide+kernel
theorem ixS_nab:dcW ixS 3 (ofList [110,97,98]) 3=[2]:=by decide+kernel
theorem ixS_b:(plW ixS 1 (ofList [98]) 3).length=2:=by decide+kernel
theorem ixS_rk:RkOf (prW ixS 1 (ofList [97]) 3) [(0,3),(1,3),(2,1)]:=by
 rw [ixS_a]
 exact ⟨by simp [Bet],fun _=>Iff.rfl,rfl⟩
theorem ixX_secs (w:World):Secs ((((w.alloc ix1).alloc ix2).alloc ix3).alloc (.cells #[.slice (some ⟨w.heap.size,0,none⟩) 6 6,.slice (some ⟨w.heap.size+1,0,none⟩) 6 6,.slice (some ⟨w.heap.size+1+1,0,none⟩) 3 3] 23)) (w.heap.size+4) (some ⟨w.heap.size+1+1+1,0,none⟩) (ixX w.heap.size):=by
 have h1:Bys (w.alloc ix1) _ _ 6 (ofList [98,97,110,97,110,97]):=bys_lit [98,97,110,97,110,97] (by decide) w (6,7)
 have h2:Bys ((w.alloc ix1).alloc ix2) _ _ 6 (ofList [97,110,97,110,97,115]):=bys_lit [97,110,97,110,97,115] (by decide) (w.alloc ix1) (6,7)
 have h3:Bys (((w.alloc ix1).alloc ix2).alloc ix3) _ _ 3 (ofList [110,97,98]):=bys_lit [110,97,98] (by decide) ((w.alloc ix1).alloc ix2) (3,4)
 obtain ⟨w1,hw1⟩:∃w1,w.alloc ix1=w1:=⟨_,rfl⟩
 have hs1:w1.heap.size=w.heap.size+1:=by rw [←hw1,size_alloc]
 rw [hw1] at h1 h2 h3 ⊢
 obtain ⟨w2,hw2⟩:∃w2,w1.alloc ix2=w2:=⟨_,rfl⟩
 have hs2:w2.heap.size=w.heap.size+2:=by rw [←hw2,size_alloc,hs1]
 have hb12:Below w1.heap.size w1 w2:=by rw [←hw2];exact (Below.refl _ _).alloc (Nat.le_refl _) _
 rw [hw2] at h2 h3 ⊢
 obtain ⟨w3,hw3⟩:∃w3,w2.alloc ix3=w3:=⟨_,rfl⟩
 have hs3:w3.heap.size=w.heap.size+3:=by rw [←hw3,size_alloc,hs2]
 have hb23:Below w2.heap.size w2 w3:=by rw [←hw3];exact (Below.refl _ _).alloc (Nat.le_refl _) _
 rw [hw3] at h3 ⊢
 rw [hs1] at h2
 rw [hs2] at h3
 obtain ⟨C,hC⟩:∃C,Obj.cells #[.slice (some ⟨w.heap.size,0,none⟩) 6 6,.slice (some ⟨w.heap.size+1,0,none⟩) 6 6,.slice (some ⟨w.heap.size+1+1,0,none⟩) 3 3] 23=C:=⟨_,rfl⟩
 have hb34:Below w3.heap.size w3 (w3.alloc C):=(Below.refl _ _).alloc (Nat.le_refl _) _
 have hl:Lies (w3.alloc C) w3.heap.size 23 [.slice (some ⟨w.heap.size,0,none⟩) 6 6,.slice (some ⟨w.heap.size+1,0,none⟩) 6 6,.slice (some ⟨w.heap.size+1+1,0,none⟩) 3 3]:=by rw [←hC];exact lies_new w3 _ _
 rw [hC]
 have hg:w3.heap.size=w.heap.size+1+1+1:=by omega
 have h1':=(((h1.below (hb12.mono (by omega))).below (hb23.mono (by omega))).below (hb34.mono (by omega))).mono_ (B':=w.heap.size+4) (by omega)
 have h2':=((h2.below (hb23.mono (by omega))).below (hb34.mono (by omega))).mono_ (B':=w.heap.size+4) (by omega)
 have h3':=(h3.below (hb34.mono (by omega))).mono_ (B':=w.heap.size+4) (by omega)
 rw [hg] at hl
 intro j p hj
 rcases j with _ | _ | _ | j
 · have hj:some _=some p:=hj
   cases hj
   refine ⟨_,rfl,by show w.heap.size+1+1+1 < _;omega,?_,Nat.le_refl _,by show 6≤maxLen;unfold maxLen;omega,fun e=>(by cases e),h1'⟩
   rw [addr_add0]
   exact hl.cell 0
 · have hj:some _=some p:=hj
   cases hj
   refine ⟨_,rfl,by show w.heap.size+1+1+1 < _;omega,?_,Nat.le_refl _,by show 6≤maxLen;unfold maxLen;omega,fun e=>(by cases e),h2'⟩
   rw [Addr.add_mid]
   exact hl.cell 1
 · have hj:some _=some p:=hj
   cases hj
   refine ⟨_,rfl,by show w.heap.size+1+1+1 < _;omega,?_,Nat.le_refl _,by show 3≤maxLen;unfold maxLen;omega,fun e=>(by cases e),h3'⟩
   rw [Addr.add_mid]
   exact hl.cell 2
 · simp [ixX] at hj
theorem conv_lit2 (w:World) (o o':Obj) (C:Array Value) (n:Nat):(convert 23 23 (.slice (some ⟨w.heap.size+1+1,0,none⟩) n n)).run Tryz.prog (((w.alloc o).alloc o').alloc (.cells C 5))=.ok (.slice (some ⟨w.heap.size+1+1,0,none⟩) n n) (((w.alloc o).alloc o').alloc (.cells C 5 (C.size,C.size+1))):=
 Joins.run_convert_bytes_const_at ((w.alloc o).alloc o') 23 5 C n n (w.heap.size+1+1) (by rw [size_alloc,size_alloc]) Tryz.underlying23 Tryz.underlying5
theorem bys_new (w:World) (l:List Nat) (hl:∀x∈l,x < 256) (fz:Nat×Nat):Bys (w.alloc (.cells (l.map fun (x:Nat)=>Value.int .u8 (x:Int)).toArray 5 fz)) (w.alloc (.cells (l.map fun (x:Nat)=>Value.int .u8 (x:Int)).toArray 5 fz)).heap.size (some ⟨w.heap.size,0,none⟩) l.length (ofList l):=by
 rw [size_alloc]
 exact bys_lit l hl w fz
theorem bys_nil (w:World) (B:Nat) (V:Nat→Nat):Bys w B none 0 V:=fun k hk=>absurd hk (Nat.not_lt_zero k)
theorem ixfirst_any (I:IdxI At) (w:World):Calls Tryz.prog 8 #[] w fun e w'=>e=.returned (.bool true)∧Below w.heap.size w w':=by
 have HI:=Lib.hid I
 have c1:=conv_lit w #[.int .u8 98,.int .u8 97,.int .u8 110,.int .u8 97,.int .u8 110,.int .u8 97] 6
 have c2:=conv_lit1 w (.cells #[.int .u8 98,.int .u8 97,.int .u8 110,.int .u8 97,.int .u8 110,.int .u8 97] 5 (6,7)) #[.int .u8 97,.int .u8 110,.int .u8 97,.int .u8 110,.int .u8 97,.int .u8 115] 6
 have c3:=conv_lit2 w (.cells #[.int .u8 98,.int .u8 97,.int .u8 110,.int .u8 97,.int .u8 110,.int .u8 97] 5 (6,7)) (.cells #[.int .u8 97,.int .u8 110,.int .u8 97,.int .u8 110,.int .u8 97,.int .u8 115] 5 (6,7)) #[.int .u8 110,.int .u8 97,.int .u8 98] 3
 have hsx:=ixX_secs w
 have hB3:Below w.heap.size w ((((w.alloc ix1).alloc ix2).alloc ix3).alloc (.cells #[.slice (some ⟨w.heap.size,0,none⟩) 6 6,.slice (some ⟨w.heap.size+1,0,none⟩) 6 6,.slice (some ⟨w.heap.size+1+1,0,none⟩) 3 3] 23)):=
  ((((Below.refl _ _).alloc (Nat.le_refl _) _).alloc (by rw [size_alloc];omega) _).alloc (by rw [size_alloc,size_alloc];omega) _).alloc (by rw [size_alloc,size_alloc,size_alloc];omega) _
 have HN:=Lib.hid (HI.out.build (some ⟨w.heap.size+1+1+1,0,none⟩) 3 (ixX w.heap.size) _ (Nat.le_refl 3) (by unfold maxLen;omega) (fun e=>(by cases e)) (hsx.mono_ (by rw [size_alloc,size_alloc,size_alloc,size_alloc];omega)))
 unfold ix1 ix2 ix3 at HN hB3
 rw [ixX_docs] at HN
 have HB0:=Lib.hid hB3
 clear I hsx hB3
 go_enter Tryz.func8,Tryz.ntmps8
 go_wp2_with fail
 refine HN.out.mono ?_
 rintro e w1 ⟨h1,_,hb1⟩
 obtain ⟨v,rfl,hAt⟩:=h1 ixS_right
 obtain ⟨pa,rfl⟩:=HI.out.ptr hAt
 have HB1:=Lib.hid (HB0.out.trans (hb1.mono HB0.out.size))
 have HA1:=Lib.hid hAt
 clear h1 hb1 hAt HN c1 c2 c3 HB0
 have c4:=conv_lit w1 #[.int .u8 97,.int .u8 110] 2
 have hy1:=bys_new w1 [97,110] (by decide) (2,3)
 have hk1:Below w1.heap.size w1 (w1.alloc (.cells #[.int .u8 97,.int .u8 110] 5 (2,3))):=(Below.refl _ _).alloc (Nat.le_refl _) _
 have HA2:=Lib.hid (HI.out.keep HA1.out hk1)
 have HB2:=Lib.hid (HB1.out.trans (hk1.mono HB1.out.size))
 have HC1:=Lib.hid (HI.out.count _ _ _ (some ⟨w1.heap.size,0,none⟩) 2 2 (ofList [97,110]) _ HA2.out (by decide) (fun e=>by cases e) hy1)
 clear hy1 hk1 HA1 HB1
 go_wp2_with fail
 refine HC1.out.mono ?_
 rintro e w2 ⟨h1,_,hb2⟩
 obtain rfl:=h1 ⟨by decide,by decide⟩
 have HA3:=Lib.hid (HI.out.keep HA2.out hb2)
 have HB3:=Lib.hid (HB2.out.trans (hb2.mono HB2.out.size))
 clear h1 hb2 HA2 HB2 HC1 c4
 rw [show (ixS.length:Nat)=3 from rfl,ixS_an.1,ixS_an.2]
 have c5:=conv_lit1 w2 (.cells #[.int .i64 2,.int .i64 4] 31) #[.int .u8 97] 1
 have hk1:Below w2.heap.size w2 (w2.alloc (.cells #[.int .i64 2,.int .i64 4] 31)):=(Below.refl _ _).alloc (Nat.le_refl _) _
 have hl1:Lies (w2.alloc (.cells #[.int .i64 2,.int .i64 4] 31)) w2.heap.size 31 [.int .i64 2,.int .i64 4]:=lies_new w2 _ _
 have hy1:=bys_new (w2.alloc (.cells #[.int .i64 2,.int .i64 4] 31)) [97] (by decide) (1,2)
 have hk2:Below (w2.alloc (.cells #[.int .i64 2,.int .i64 4] 31)).heap.size (w2.alloc (.cells #[.int .i64 2,.int .i64 4] 31)) ((w2.alloc (.cells #[.int .i64 2,.int .i64 4] 31)).alloc (.cells #[.int .u8 97] 5 (1,2))):=(Below.refl _ _).alloc (Nat.le_refl _) _
 have HA4:=Lib.hid (HI.out.keep (HI.out.keep HA3.out hk1) hk2)
 have HL4:=Lib.hid (hl1.alloc (.cells #[.int .u8 97] 5 (1,2)))
 have HB4:=Lib.hid ((HB3.out.trans (hk1.mono HB3.out.size)).trans (hk2.mono (HB3.out.trans (hk1.mono HB3.out.size)).size))
 have HC2:=Lib.hid (HI.out.top _ _ _ (some ⟨w2.heap.size+1,0,none⟩) 1 1 (ofList [97]) 2 _ HA4.out (by decide) (fun e=>by cases e) (by rw [size_alloc w2] at hy1;exact hy1) (by decide))
 clear hy1 hk1 hk2 hl1 HA3 HB3
 go_wp2_with fail
 refine HC2.out.mono ?_
 rintro e w3 ⟨h1,_,hb3⟩
 obtain ⟨A3,cc3,R3,T3,rfl,hcap3,hR3,hT3,hP3⟩:=h1 ⟨⟨by decide,by decide⟩,by decide⟩
 obtain rfl:=hR3.one ixS_rk
 obtain rfl:T3=[(0,3),(1,3)]:=hT3
 have HP3:=Lib.hid hP3
 have HA5:=Lib.hid (HI.out.keep HA4.out hb3)
 have HL5:=Lib.hid (HL4.out.below hb3 HL4.out.lt)
 have HB5:=Lib.hid (HB4.out.trans (hb3.mono HB4.out.size))
 clear h1 hR3 hP3 hb3 HC2 HA4 HL4 HB4 c5
 have c6:=conv_lit w3 #[.int .u8 110,.int .u8 97,.int .u8 98] 3
 have hy2:=bys_new w3 [110,97,98] (by decide) (3,4)
 have hk3:Below w3.heap.size w3 (w3.alloc (.cells #[.int .u8 110,.int .u8 97,.int .u8 98] 5 (3,4))):=(Below.refl _ _).alloc (Nat.le_refl _) _
 have HA6:=Lib.hid (HI.out.keep HA5.out hk3)
 have HB6:=Lib.hid (HB5.out.trans (hk3.mono HB5.out.size))
 have HC3:=Lib.hid (HI.out.list _ _ _ (some ⟨w3.heap.size,0,none⟩) 3 3 (ofList [110,97,98]) _ HA6.out (by decide) (fun e=>by cases e) hy2)
 have HL6:=Lib.hid (HL5.out.below hk3 HL5.out.lt)
 have HP4:=Lib.hid (HP3.out.below hk3)
 clear hy2 hk3 HA5 HB5 HL5 HP3
 go_wp2_with fail
 refine HC3.out.mono ?_
 rintro e w4 ⟨h1,_,hb4⟩
 obtain ⟨A4,cc4,rfl,hI4⟩:=h1 ⟨by decide,by decide⟩
 rw [show (ixS.length:Nat)=3 from rfl,ixS_nab] at hI4 ⊢
 have HI4:=Lib.hid hI4
 have HA7:=Lib.hid (HI.out.keep HA6.out hb4)
 have HB7:=Lib.hid (HB6.out.trans (hb4.mono HB6.out.size))
 have HL7:=Lib.hid (HL6.out.below hb4 HL6.out.lt)
 have HP5:=Lib.hid (HP4.out.below hb4)
 have HC4:=Lib.hid (HI.out.count _ _ _ none 0 0 (fun _=>0) w4 HA7.out (by decide) (fun _=>⟨rfl,rfl⟩) (bys_nil _ _ _))
 clear h1 hI4 hb4 HC3 HA6 HB6 HL6 HP4 c6
 go_wp2_with fail
 refine HC4.out.mono ?_
 rintro e w5 ⟨_,h1,hb5⟩
 obtain rfl:=h1 (by unfold RightQ;decide)
 have c7:=conv_lit1 w5 (.cells #[.int .i64 0,.int .i64 0] 31) #[.int .u8 98] 1
 have hy1:=bys_new (w5.alloc (.cells #[.int .i64 0,.int .i64 0] 31)) [98] (by decide) (1,2)
 have hk1:Below w5.heap.size w5 (w5.alloc (.cells #[.int .i64 0,.int .i64 0] 31)):=(Below.refl _ _).alloc (Nat.le_refl _) _
 have hk2:Below (w5.alloc (.cells #[.int .i64 0,.int .i64 0] 31)).heap.size (w5.alloc (.cells #[.int .i64 0,.int .i64 0] 31)) ((w5.alloc (.cells #[.int .i64 0,.int .i64 0] 31)).alloc (.cells #[.int .u8 98] 5 (1,2))):=(Below.refl _ _).alloc (Nat.le_refl _) _
 have hk5:Below w5.heap.size w5 ((w5.alloc (.cells #[.int .i64 0,.int .i64 0] 31)).alloc (.cells #[.int .u8 98] 5 (1,2))):=hk1.trans (hk2.mono (by rw [size_alloc];omega))
 have HA8:=Lib.hid (HI.out.keep (HI.out.keep HA7.out hb5) hk5)
 have hB8:=HB7.out.trans (hb5.mono HB7.out.size)
 have HB8:=Lib.hid (hB8.trans (hk5.mono hB8.size))
 have HL8:=Lib.hid ((HL7.out.below hb5 HL7.out.lt).below hk5 (Nat.lt_of_lt_of_le HL7.out.lt hb5.size))
 have HP6:=Lib.hid ((HP5.out.below hb5).below hk5)
 have HI5:=Lib.hid ((HI4.out.below hb5).below hk5)
 have HC5:=Lib.hid (HI.out.places _ _ _ (some ⟨w5.heap.size+1,0,none⟩) 1 1 (ofList [98]) _ HA8.out (by decide) (fun e=>by cases e) (by rw [size_alloc w5] at hy1;exact hy1))
 clear h1 hb5 hB8 hk1 hk2 hk5 hy1 HA7 HB7 HL7 HP5 HI4 HC4
 go_wp2_with fail
 refine HC5.out.mono ?_
 rintro e w6 ⟨h1,_,hb6⟩
 obtain ⟨A6,cc6,rfl,_⟩:=h1 ⟨by decide,by decide⟩
 rw [show (ixS.length:Nat)=3 from rfl,ixS_b]
 have HB9:=Lib.hid (HB8.out.trans (hb6.mono HB8.out.size))
 have HL9:=Lib.hid (HL8.out.below hb6 HL8.out.lt)
 have HP7:=Lib.hid (HP6.out.below hb6)
 have HI6:=Lib.hid (HI5.out.below hb6)
 have d0:w6.cell? ⟨w2.heap.size,0,none⟩=some (.int .i64 2):=HL9.out.cell 0
 have d1:w6.cell? ⟨w2.heap.size,1,none⟩=some (.int .i64 4):=HL9.out.cell 1
 clear h1 hb6 HA8 HB8 HL8 HP6 HI5 HC5 c7
 have hk1:Below w6.heap.size w6 (w6.alloc (.cells #[.int .i64 0,.int .i64 3,.int .i64 1,.int .i64 3] 60)):=(Below.refl _ _).alloc (Nat.le_refl _) _
 have HB10:=Lib.hid (HB9.out.trans (hk1.mono HB9.out.size))
 have HI7:=Lib.hid (HI6.out.below hk1)
 have HC6:=Lib.hid (refSameP_any A3 (some ⟨w6.heap.size,0,none⟩) cc3 2 [(0,3),(1,3)] _ (HP7.out.below hk1) (prs_lit w6 [(0,3),(1,3)] (by decide) (by decide)))
 clear hk1 HB9 HI6 HP7
 go_wp2_with fail
 refine HC6.out.mono ?_
 rintro e w7 ⟨rfl,hb7⟩
 have HB11:=Lib.hid (HB10.out.trans (hb7.mono HB10.out.size))
 have hk2:Below w7.heap.size w7 (w7.alloc (.cells #[.int .i64 2] 3)):=(Below.refl _ _).alloc (Nat.le_refl _) _
 have HB12:=Lib.hid (HB11.out.trans (hk2.mono HB11.out.size))
 have i2:=its_lit w7 [2] (by decide)
 have HC7:=Lib.hid (refSame8_any A4 (some ⟨w7.heap.size,0,none⟩) 1 1 cc4 1 _ _ _ _ (w7.alloc (.cells #[.int .i64 2] 3)) (by unfold maxLen;omega) (Nat.le_refl _) (Nat.le_refl _) ((HI7.out.below hb7).below hk2).2.2.2 i2)
 clear hb7 hk2 HC6 HI7 HB10 i2
 go_wp2_with fail
 refine HC7.out.mono ?_
 rintro e w8 ⟨b,rfl,hbi,hb8⟩
 obtain rfl:b=true:=hbi.2 ⟨by trivial,fun i hi=>by
  obtain rfl:i=0:=by omega
  rfl⟩
 have HB13:=Lib.hid (HB12.out.trans (hb8.mono HB12.out.size))
 clear hbi hb8 HC7
 go_wp2_with fail
 go_ret
 exact ⟨rfl,HB13.out⟩
end
end Go.Proofs.YtcidobpbepeakaaGreat

namespace Go.Proofs.YtcidobpbepeakaaGreat
open Go.RowKit
def pcells (L:List Part):List Value:=L.map fun p=>Value.slice p.A p.n p.c
theorem pcells_length (L:List Part):(pcells L).length=L.length:=by unfold pcells;simp
theorem pcells_at {L:List Part} {i:Nat} {p:Part} (h:L[i]?=some p):(pcells L)[i]?=some (.slice p.A p.n p.c):=by unfold pcells;rw [List.getElem?_map,h];rfl
theorem info_sl:(Tryz.prog.info? 23).map (fun i=>(i.zero,i.size,i.bytes))=some (some (.slice none 0 0),1,24):=by kernel_rfl
def OwnPart (w:World) (B:Nat) (p:Part):Prop:=
 (p.A=none∧p.n=0∧p.c=0)∨∃(g:Nat) (cur:Array Value),p.A=some ⟨g,0,none⟩∧B≤g∧w.heap[g]?=some (.cells cur 5 (0,0))∧p.n≤p.c∧p.c≤maxLen∧∀k,k < p.n→cur[k]?=some (.int .u8 ((p.V k:Nat):Int))∧p.V k < 256
theorem OwnPart.below {w w':World} {B:Nat} {p:Part} (h:OwnPart w B p) (hb:Below w.heap.size w w'):OwnPart w' B p:=by
 rcases h with h | ⟨g,cur,h1,h2,h3,h4⟩
 · exact .inl h
 · have hg:g < w.heap.size:=(Array.getElem?_eq_some_iff.1 h3).1
   exact .inr ⟨g,cur,h1,h2,(hb.block g hg).trans h3,h4⟩
theorem OwnPart.grown {w w':World} {B B' n:Nat} {v:Value} {cs:List Value} {p:Part} (h:OwnPart w B p) (hv:w.ownsRow B' 23 1 v n cs) (hg:w.grownBy w' v.ownBlock):OwnPart w' B p:=by
 rcases h with h | ⟨g,cur,h1,h2,h3,h4⟩
 · exact .inl h
 · have hlt:g < w.heap.size:=(Array.getElem?_eq_some_iff.1 h3).1
   refine .inr ⟨g,cur,h1,h2,(hg.block g hlt ?_).trans h3,h4⟩
   intro e
   rcases hv.2 with ⟨rfl,_⟩ | ⟨g',cap,cur',rfl,_,hg',_⟩
   · cases e
   · have e:some g=some g':=e
     injection e with e
     subst e
     rw [h3] at hg'
     simp at hg'
theorem OwnPart.bys {w:World} {B:Nat} {p:Part} (h:OwnPart w B p):p.n≤p.c∧p.c≤maxLen∧(p.A=none→p.n=0∧p.c=0)∧Bys w w.heap.size p.A p.n p.V:=by
 rcases h with ⟨h1,h2,h3⟩ | ⟨g,cur,h1,h2,h3,h4,h5,h6⟩
 · exact ⟨by omega,by omega,fun _=>⟨h2,h3⟩,fun k hk=>by omega⟩
 · refine ⟨h4,h5,fun e=>(by rw [h1] at e;cases e),fun k hk=>?_⟩
   obtain ⟨h7,h8⟩:=h6 k hk
   refine ⟨⟨g,0,none⟩,h1,(Array.getElem?_eq_some_iff.1 h3).1,?_,h8⟩
   have e:(⟨g,0,none⟩:Addr).add k=⟨g,k,none⟩:=by unfold Addr.add;split <;> simp_all
   rw [e,cell_of_row w g k cur 5 (0,0) h3]
   exact h7
theorem OwnPart.lower {w:World} {B B':Nat} {p:Part} (h:OwnPart w B p) (hB:B'≤B):OwnPart w B' p:=by
 rcases h with h | ⟨g,cur,h1,h2,h3⟩
 · exact .inl h
 · exact .inr ⟨g,cur,h1,by omega,h3⟩
theorem pcells_snoc (L:List Part) (p:Part):pcells (L++[p])=pcells L++[.slice p.A p.n p.c]:=by unfold pcells;simp
theorem own_cut {w:World} {B m n:Nat} {v:Value} {V:Nat→Nat} (h:w.ownsRow B 5 1 v m (ycells V m)) (hn:n≤m) (hV:∀k,k < m→V k < 256):
    ∃(A:Option Addr) (c:Nat),v=.slice A m c∧m≤c∧(A=none→m=0∧c=0)∧OwnPart w B ⟨A,n,c,V⟩:=by
 have hc:=h
 rcases h.2 with ⟨rfl,rfl⟩ | ⟨g,cap,cur,rfl,hb,hg,hcap,rest⟩
 · exact ⟨none,0,rfl,Nat.le_refl _,fun _=>⟨rfl,rfl⟩,.inl ⟨rfl,by show n=0;omega,rfl⟩⟩
 · refine ⟨some ⟨g,0,none⟩,cap,rfl,hcap,fun e=>(by cases e),.inr ⟨g,cur,rfl,hb,hg,by show n≤cap;omega,rest.1,fun k hk=>⟨?_,hV k (by have:k < n:=hk;omega)⟩⟩⟩
   · have hk:k < n:=hk
     have h1:=hc.cells rfl k _ (ycells_at V m k (by omega))
     have e:(⟨g,0,none⟩:Addr).add k=⟨g,k,none⟩:=by unfold Addr.add;split <;> simp_all
     rw [e,cell_of_row w g k cur 5 (0,0) hg] at h1
     exact h1
theorem pcells_one (L:List Part):∀v∈pcells L,v.oneCell'=true:=by
 intro v hv
 unfold pcells at hv
 rw [List.mem_map] at hv
 obtain ⟨p,_,rfl⟩:=hv
 rfl
theorem pcells_append (L L':List Part):pcells (L++L')=pcells L++pcells L':=by unfold pcells;rw [List.map_append]
theorem step_append_parts {ops:Array Oper} {rest:List Oper} {o:Oper} {a:Act} {Q:Exit→Act→World→Prop} (hgd:o.guard=none) (s x:Operand)
    (ho:o.op=.call { callee:=.builtin .append,args:=#[s,x],argTypes:=#[22,22] })
    {w:World} {B:Nat} {v:Value} {i:Nat} {xs:List Value} (hs:a.eval s=v) (hown:w.ownsRow B 23 1 v i xs) {P:Option Addr} {n c:Nat} {L:List Part} (hx:a.eval x=.slice P n c) (hl:L.length=n) (hP:P=none→n=0∧c=0) {B':Nat} (hW:Secs w B' P L) (hB:B≤w.heap.size) (N:Nat) (hN:i+n=N) (hi:N≤4194304)
    (h:∀A' c' w',Hid (w'.ownsRow B 23 1 (.slice A' N c') N (xs++pcells L))→Hid (w.grownBy w' v.ownBlock)→Below B w w'→wpList Tryz.prog ops Q rest (a.put o.dst (.slice A' N c')) w'):
    wpList Tryz.prog ops Q (o::rest) a w:=by
 obtain ⟨i0,hi0,hz0,hs0,hb0⟩:=info_parts info_sl
 subst hN
 rcases P with _ | ad
 · obtain ⟨rfl,rfl⟩:=hP rfl
   have hL0:L=[]:=List.length_eq_zero_iff.1 hl
   subst hL0
   refine wpList_append_own_none hgd s x 22 ho B 23 i0 1 Tryz.underlying22 hi0 v i xs hs hown hx ?_
   obtain ⟨A',c',rfl⟩:=owns_slice hown
   refine h A' c' w (Lib.hid ?_) (Lib.hid (grownBy_of_below (Below.refl _ _) _)) (Below.refl _ _)
   show w.ownsRow B 23 1 (.slice A' i c') i (xs++[])
   rw [List.append_nil]
   exact hown
 · refine wpList_append_own _ hgd s x 22 ho B 23 i0 (.slice none 0 0) 1 24 Tryz.underlying22 hi0 hz0 hs0 hb0 rfl (by decide) v i xs hs hown ad n c (pcells L) hx
    (by rw [pcells_length];omega) (fun j u hj=>?_) (pcells_one _) (by unfold maxLen;omega) (by omega) hB (fun v' w' h2 h3 _=>?_)
   · have hjn:j < L.length:=by
      have:=(List.getElem?_eq_some_iff.1 hj).1
      rw [pcells_length] at this
      exact this
     obtain ⟨p,hp⟩:∃p,L[j]?=some p:=⟨_,List.getElem?_eq_getElem hjn⟩
     rw [pcells_at hp] at hj
     obtain ⟨ad',e,_,hc,_⟩:=hW j p hp
     cases e
     rw [←hj,←hc]
   · obtain ⟨A',c',rfl⟩:=owns_slice h2
     exact h A' c' w' (Lib.hid h2) (Lib.hid h3) ((Below.refl _ _).grown h3 hB (fun k hk=>(hown.lt k hk).1))
end Go.Proofs.YtcidobpbepeakaaGreat

namespace Go.Proofs.YtcidobpbepeakaaGreat
open Go.RowKit
theorem below_row {B:Nat} {A A':World} {row:Option Nat} (h:A.grownBy A' row) (hB:B≤A.heap.size) (hr:∀k,row=some k→B≤k):Below B A A':=(Below.refl B A).grown h hB hr
structure Off (p:Nat→Prop) (W W':World):Prop where
 os:W'.os=W.os
 tape:W'.tape=W.tape
 output:W'.output=W.output
 size:W.heap.size≤W'.heap.size
 block:∀k,k < W.heap.size→p k→W'.heap[k]?=W.heap[k]?
theorem Off.refl (p:Nat→Prop) (W:World):Off p W W:=⟨rfl,rfl,rfl,Nat.le_refl _,fun _ _ _=>rfl⟩
theorem Off.trans {p:Nat→Prop} {A B C:World} (h:Off p A B) (k:Off p B C):Off p A C:=
 ⟨k.os.trans h.os,k.tape.trans h.tape,k.output.trans h.output,Nat.le_trans h.size k.size,fun i hi hb=>(k.block i (Nat.lt_of_lt_of_le hi h.size) hb).trans (h.block i hi hb)⟩
theorem Off.call {p:Nat→Prop} {A B:World} (h:Below A.heap.size A B):Off p A B:=⟨h.os,h.tape,h.output,h.size,fun k hk _=>h.block k hk⟩
theorem Off.grown {p:Nat→Prop} {A B:World} {row:Option Nat} (h:A.grownBy B row) (hr:∀k,row=some k→¬p k):Off p A B:=
 ⟨h.os,h.tape,h.output,h.size,fun k hk hp=>h.block k hk fun e=>hr k e.symm hp⟩
theorem Off.setCell {p:Nat→Prop} {A:World} {q:Addr} (h:¬p q.block) (u:Value):Off p A (A.setCell q u):=
 ⟨rfl,rfl,rfl,by simp [World.setCell],fun k _ hp=>Below.heap_setCell _ _ _ _ (fun e=>h (by rw [←e];exact hp))⟩
theorem Off.less {p q:Nat→Prop} {A B:World} (h:Off p A B) (hq:∀k,q k→p k):Off q A B:=⟨h.os,h.tape,h.output,h.size,fun k hk hp=>h.block k hk (hq k hp)⟩
theorem Off.below {p:Nat→Prop} {A B:World} {n:Nat} (h:Off p A B) (hs:n≤A.heap.size) (hp:∀k,k < n→p k):Below n A B:=⟨h.os,h.tape,h.output,h.size,fun k hk=>h.block k (by omega) (hp k hk)⟩
theorem Off.cell {p:Nat→Prop} {A B:World} (h:Off p A B) {q:Addr} {v:Value} (hc:A.cell? q=some v) (hp:p q.block):B.cell? q=some v:=
 (World.cell?_of_block (h.block q.block (cell_in hc) hp)).trans hc
theorem Off.free {p:Nat→Prop} {A B:World} (h:Off p A B) {q:Addr} {v:Value} (hc:A.cell? q=some v) (hf:A.frozen? q=false) (hp:p q.block):B.frozen? q=false:=
 (World.frozen?_of_block (h.block q.block (cell_in hc) hp)).trans hf
def Gives {α:Type} (P:Program) (g:Nat) (lb:Array Value) (encs:α→Array Value) (Ok:Nat→α→World→Prop) (N:Nat) (St Kp:World→World→Prop) (w:World):Prop:=
 ∀(l:Nat) (J:Nat→World→Prop) (Jx:World→Prop) (W:World),Below w.heap.size w W→W.heap.size=w.heap.size+2→
   (∀i A A',J i A→St A A'→J i A')→(∀A A',Jx A→St A A'→Jx A')→
   (∀i x W1,i < N→Ok i x W1→J i W1→YieldAt Fence.wide 0 P l (encs x) W1 fun e W'=>(e=.returned (.bool true)∧J (i+1) W'∧Kp W1 W')∨(e=.returned (.bool false)∧Jx W'∧Kp W1 W'))→
   J 0 W→Calls P g (#[.func (.yield l) #[] #[]]++lb) W fun e W'=>(∃v,e=.returned v)∧(J N W'∨Jx W')
def roundOut (R:World→World→Prop) (I:World→Prop) (Ix:Code→World→Prop) (W:World):Exit→Act→World→Prop
 | .normal,_,W'=>R W W'∧I W'
 | .ret,_,W'=>R W W'∧Ix .ret W'
 | .exit id,_,W'=>R W W'∧Ix (.exit id) W'
 | .goto t,_,W'=>R W W'∧Ix (.goto t) W'
 | .panic _,_,_=>False
 | .outgrown,_,_=>False
theorem range_law {α:Type} {P:Program} {g:Operand} {ps:Array Tmp} {assign body:Code} {Q:Exit→Act→World→Prop} {a:Act} {w:World} {n:Nat}
    {gf:Nat} {lb:Array Value} (hg:a.eval g=.func (.func gf) #[] lb) (eg:∀args w,(callFunc gf args).run P w=.ok (.enter gf args) w)
    {encs:α→Array Value} {Ok:Nat→α→World→Prop} {N:Nat} {St Kp:World→World→Prop} (hseq:Gives P gf lb encs Ok N St Kp w) (hps:∀x,(encs x).size=ps.size)
    (R:World→World→Prop) (I:Nat→World→Prop) (Ix:Code→World→Prop)
    (hSt:∀A A',St A A'→∀k,w.heap.size≤k→k < w.heap.size+2→k < A.heap.size→A'.heap[k]?=A.heap[k]?)
    (hR:∀A A',R A A'→∀k,w.heap.size≤k→k < w.heap.size+2→k < A.heap.size→A'.heap[k]?=A.heap[k]?)
    (hKp:∀A B C D,w.heap.size+2≤A.heap.size→A.grownBy B (some (w.heap.size+1))→R B C→C.grownBy D (some (w.heap.size+1))→Kp A D)
    (hI:∀i A A',I i A→A.grownBy A' (some (w.heap.size+1))∨St A A'→I i A') (hIx:∀c A A',Ix c A→A.grownBy A' (some (w.heap.size+1))∨St A A'→Ix c A')
    (hOk:∀i x A A' (r:Loop),Ok i x A→A.heap[w.heap.size+1]?=some (.loop r)→A.grownBy A' (some (w.heap.size+1))→Ok i x A')
    (h0:I 0 w) (a₁:α→Act)
    (hassign:∀(l:Nat) (x:α) (W:World) (K:Act→World→Prop),K (a₁ x) W→
      assign.wpIn (Fence.wide.inRound l) 0 P (Exit.then K (fun _ _ _=>False)) { tmps:=(ps.zip (encs x)).foldl (fun t (p,v)=>t.setIfInBounds p v) a.tmps,defers:=[] } W)
    (hbody:∀(l i:Nat) (x:α) (W:World),w.heap.size+2≤W.heap.size→i < N→Ok i x W→I i W→body.wpIn (Fence.wide.inRound l) 0 P (roundOut R (I (i+1)) Ix W) (a₁ x) W)
    (hdone:∀(D:Nat) (W:World),w.heap.size≤D→I N W→W.heap[D]?=some (.deferred (some []))→Q .normal { a with defers:={ target:=.collected D,args:=#[] }::a.defers } W)
    (hstop:∀(D:Nat) (c:Code) (W:World),w.heap.size≤D→Ix c W→W.heap[D]?=some (.deferred (some []))→c.wpIn Fence.wide n P Q { a with defers:={ target:=.collected D,args:=#[] }::a.defers } W):
    (Code.rangeFunc g ps assign body).wpIn Fence.wide n P Q a w:=by
 refine wpIn_rangeFunc fun fn hfn=>?_
 obtain ⟨rec,hrec⟩:∃rec:LoopState→Option Code→Loop,rec=fun st pe=>{ state:=st,pending:=pe,fn,tmps:=a.tmps,params:=ps,assign,body,defers:=w.heap.size }:=⟨_,rfl⟩
 obtain ⟨s,hs⟩:∃s,w.heap.size=s:=⟨_,rfl⟩
 obtain ⟨W1,hW1⟩:∃W1,(w.alloc (.deferred (some []))).alloc (.loop (rec .ready none))=W1:=⟨_,rfl⟩
 have hz1:W1.heap.size=s+2:=by rw [←hW1,←hs];simp
 have hL1:W1.heap[s+1]?=some (.loop (rec .ready none)):=by
  rw [←hW1,←hs]
  have:=World.alloc_heap_new (w.alloc (.deferred (some []))) (.loop (rec .ready none))
  rwa [World.size_alloc] at this
 have hK1:W1.heap[s]?=some (.deferred (some [])):=by
  rw [←hW1,←hs]
  exact (Below.heap_alloc _ _ _ (by simp)).trans (World.alloc_heap_new w _)
 have hb1:Below s w W1:=by
  rw [←hW1,←hs]
  exact ((Below.refl _ w).alloc (Nat.le_refl _) _).alloc (by simp) _
 have hI1:I 0 W1:=by
  rw [←hW1]
  exact hI _ _ _ (hI _ _ _ h0 (.inl (World.grownBy_alloc _ _ _))) (.inl (World.grownBy_alloc _ _ _))
 have hgb:∀(W:World) (r:Loop),W.grownBy (W.putObj (s+1) (.loop r)) (some (w.heap.size+1)):=fun W r=>by rw [hs];exact grownBy_putObj' W (s+1) _
 refine ⟨s+1,[{ target:=.collected s,args:=#[] }],W1,{ target:=.fn (.func gf) lb,args:=#[.func (.yield (s+1)) #[] #[]] },W1,gf,#[.func (.yield (s+1)) #[] #[]]++lb,W1,?_,?_,fun _ _=>trivial,?_,(fun h=>by cases h),?_⟩
 · rw [←hW1,hrec,←hs]
   exact run_enterLoop_outer _ _ _ _ _
 · simp only [resolve,hg]
   simp [go_sem]
 · simp [invoke,go_sem,eg]
 · rw [callsIn_wide]
   refine (hseq (s+1) (fun i W=>I i W∧W.heap[s+1]?=some (.loop (rec .ready none))∧W.heap[s]?=some (.deferred (some [])))
    (fun W=>∃c,Ix c W∧W.heap[s+1]?=some (.loop (rec .done (some c)))∧W.heap[s]?=some (.deferred (some []))) W1 (by rw [hs];exact hb1) (by rw [hs];exact hz1)
    (fun i A A' h hst=>⟨hI _ _ _ h.1 (.inr hst),(hSt _ _ hst _ (by omega) (by omega) (Array.getElem?_eq_some_iff.1 h.2.1).1).trans h.2.1,(hSt _ _ hst _ (by omega) (by omega) (Array.getElem?_eq_some_iff.1 h.2.2).1).trans h.2.2⟩)
    (fun A A' h hst=>by
      obtain ⟨c,hc,hl,hk⟩:=h
      exact ⟨c,hIx _ _ _ hc (.inr hst),(hSt _ _ hst _ (by omega) (by omega) (Array.getElem?_eq_some_iff.1 hl).1).trans hl,(hSt _ _ hst _ (by omega) (by omega) (Array.getElem?_eq_some_iff.1 hk).1).trans hk⟩)
    ?_ ⟨hI1,hL1,hK1⟩).mono ?_
   · rintro i x W hiN hox ⟨hi,hl,hk⟩
     have hlt:=(Array.getElem?_eq_some_iff.1 hl).1
     have hy:=run_yield (P:=P) (args:=encs x) hl (by rw [hrec];exact hps x)
     rw [hrec] at hy
     refine ⟨fn,_,assign,body,hy,roundIn_of_wpIn hfn (hassign _ x W _ ⟨_,run_beginRound hl (by rw [hrec]),?_⟩)⟩
     obtain ⟨W2,hW2⟩:∃W2,W.putObj (s+1) (.loop { rec .ready none with state:=.busy })=W2:=⟨_,rfl⟩
     have hg2:=hgb W { rec .ready none with state:=.busy }
     have hl2:W2.heap[s+1]?=some (.loop { rec .ready none with state:=.busy }):=by rw [←hW2];exact World.putObj_heap_same hlt
     have hk2:W2.heap[s]?=some (.deferred (some [])):=by rw [←hW2];exact (World.putObj_heap_other (by omega)).trans hk
     have hz2:w.heap.size+2≤W2.heap.size:=by rw [←hW2];simp;omega
     rw [hW2] at hg2 ⊢
     refine wpIn_mono (hbody _ i x W2 hz2 hiN (hOk _ _ _ _ _ hox (by rw [hs];exact hl) hg2) (hI _ _ _ hi (.inl hg2))) ?_
     have fin:∀(jump:Option Code) (W3:World),R W2 W3→
         (Instr.endRound (s+1) jump).run P W3=.ok (.bool jump.isNone) (W3.putObj (s+1) (.loop (rec (if jump.isNone then .ready else .done) jump)))∧
         (W3.putObj (s+1) (.loop (rec (if jump.isNone then .ready else .done) jump))).heap[s+1]?=some (.loop (rec (if jump.isNone then .ready else .done) jump))∧
         (W3.putObj (s+1) (.loop (rec (if jump.isNone then .ready else .done) jump))).heap[s]?=some (.deferred (some [])):=fun jump W3 h3=>by
      have hl3:=(hR _ _ h3 (s+1) (by omega) (by omega) (Array.getElem?_eq_some_iff.1 hl2).1).trans hl2
      have hk3:=(hR _ _ h3 s (by omega) (by omega) (Array.getElem?_eq_some_iff.1 hk2).1).trans hk2
      have:=run_endRound (P:=P) jump hl3
      rw [hrec] at this ⊢
      exact ⟨this,World.putObj_heap_same (Array.getElem?_eq_some_iff.1 hl3).1,(World.putObj_heap_other (by omega)).trans hk3⟩
     rintro e a3 W3 hp
     cases e with
     | normal=>
       obtain ⟨h3,hi3⟩:=hp
       obtain ⟨hr,hl4,hk4⟩:=fin none W3 h3
       exact ⟨_,_,hr,.inl ⟨rfl,⟨hI _ _ _ hi3 (.inl (hgb _ _)),hl4,hk4⟩,hKp _ _ _ _ (by omega) hg2 h3 (hgb _ _)⟩⟩
     | ret=>
       obtain ⟨h3,hi3⟩:=hp
       obtain ⟨hr,hl4,hk4⟩:=fin (some .ret) W3 h3
       exact ⟨_,_,hr,.inr ⟨rfl,⟨.ret,hIx _ _ _ hi3 (.inl (hgb _ _)),hl4,hk4⟩,hKp _ _ _ _ (by omega) hg2 h3 (hgb _ _)⟩⟩
     | exit id=>
       obtain ⟨h3,hi3⟩:=hp
       obtain ⟨hr,hl4,hk4⟩:=fin (some (.exit id)) W3 h3
       exact ⟨_,_,hr,.inr ⟨rfl,⟨.exit id,hIx _ _ _ hi3 (.inl (hgb _ _)),hl4,hk4⟩,hKp _ _ _ _ (by omega) hg2 h3 (hgb _ _)⟩⟩
     | goto t=>
       obtain ⟨h3,hi3⟩:=hp
       obtain ⟨hr,hl4,hk4⟩:=fin (some (.goto t)) W3 h3
       exact ⟨_,_,hr,.inr ⟨rfl,⟨.goto t,hIx _ _ _ hi3 (.inl (hgb _ _)),hl4,hk4⟩,hKp _ _ _ _ (by omega) hg2 h3 (hgb _ _)⟩⟩
     | panic ch=>exact hp.elim
     | outgrown=>exact hp.elim
   · rintro e W2 ⟨⟨v,rfl⟩,(⟨hi,hl,hk⟩ | ⟨c,hi,hl,hk⟩)⟩
     · have h:=run_endLoop (P:=P) hl (by rw [hrec];simp)
       rw [hrec] at h
       exact ⟨none,_,h,hdone _ _ (by omega) (hI _ _ _ hi (.inl (hgb _ _))) ((World.putObj_heap_other (by omega)).trans hk)⟩
     · have h:=run_endLoop (P:=P) hl (by rw [hrec];simp)
       rw [hrec] at h
       exact ⟨some c,_,h,hstop _ c _ (by omega) (hIx _ _ _ hi (.inl (hgb _ _))) ((World.putObj_heap_other (by omega)).trans hk)⟩
def Marks (B:Nat):Nat→List Deferred→World→Prop
 | _,[],_=>True
 | T,d::ds,w=>∃D,d={ target:=.collected D,args:=#[] }∧B≤D∧D < T∧w.heap[D]?=some (.deferred (some []))∧Marks B D ds w
theorem Marks.keep {B:Nat} {w w':World}:∀ {ds:List Deferred} {T:Nat},Marks B T ds w→(∀D,B≤D→D < T→w.heap[D]?=some (.deferred (some []))→w'.heap[D]?=some (.deferred (some [])))→Marks B T ds w'
 | [],_,_,_=>trivial
 | _::_,_,⟨D,h1,h2,h3,h4,h5⟩,h=>⟨D,h1,h2,h3,h D h2 h3 h4,h5.keep fun E a b=>h E a (by omega)⟩
theorem Marks.out {B:Nat} {n:Nat} {P:Program} {fn:Func} {tmps:Array Value} {R:Ending→World→Prop}:∀ {ds:List Deferred} {T:Nat} {w:World},Marks B T ds w→B≤w.heap.size→
    (∀w',Below B w w'→LeavesIn Fence.wide n P fn tmps R [] .returning w')→LeavesInM Fence.wide n P fn tmps R ds .returning w
 | [],_,w,_,_,h=>h w (Below.refl _ _)
 | _::_,_,w,⟨D,h1,h2,h3,h4,h5⟩,hB,h=>by
   subst h1
   have hb:=below_row (grownBy_putObj' w D (.deferred none)) hB (fun k e=>by cases e;exact h2)
   refine ⟨by simp,.inl ⟨_,_,rfl,run_takeDeferred h4,?_⟩⟩
   exact (h5.keep fun E _ hE hk=>(World.putObj_heap_other (by omega)).trans hk).out (by simp;exact hB) fun w' hw'=>h w' (hb.trans hw')
end Go.Proofs.YtcidobpbepeakaaGreat

namespace Go.Proofs.YtcidobpbepeakaaGreat
open Go.RowKit
theorem snoc_at {L:List Part} {i q:Nat} {x p:Part} (hl:L.length=i) (h:(L++[x])[q]?=some p):(q < i∧L[q]?=some p)∨(q=i∧p=x):=by
 by_cases e:q < i
 · rw [List.getElem?_append_left (by omega)] at h
   exact .inl ⟨e,h⟩
 · have hx:=(List.getElem?_eq_some_iff.1 h).1
   rw [List.length_append,hl] at hx
   have hq:q=i:=by
    have:([x]:List Part).length=1:=rfl
    omega
   subst hq
   rw [List.getElem?_append_right (by omega),hl,Nat.sub_self] at h
   cases h
   exact .inr ⟨rfl,rfl⟩
theorem bytesT_mem:∀ {S:List Sec} {x:Sec},x∈S→x.n≤bytesT S
 | [],x,h=>by cases h
 | y::S,x,h=>by
   have e:bytesT (y::S)=y.n+bytesT S:=by unfold bytesT;simp
   rcases List.mem_cons.1 h with rfl | h
   · omega
   · have:=bytesT_mem h
     omega
end Go.Proofs.YtcidobpbepeakaaGreat

namespace Go.Proofs.YtcidobpbepeakaaGreat
open Go.RowKit
def offI (S:List Sec) (i:Nat):Int:=((offT S i:Nat):Int)
structure Txt (B:Nat) (w:World) (g:Nat) (X:Option Addr) (cx y cy:Nat) (T:List Part) (S:List Sec):Prop where
 head:Lies w g 88 [.slice X S.length cx,.slice (some ⟨y,0,none⟩) (S.length+1) cy]
 lo:B≤g
 docs:w.ownsRow B 23 1 (.slice X S.length cx) S.length (pcells T)
 same:docsP T=S
 parts:∀(q:Nat) (p:Part),T[q]?=some p→OwnPart w B p
 starts:w.ownsRow B 3 1 (.slice (some ⟨y,0,none⟩) (S.length+1) cy) (S.length+1) (icells (offI S) (S.length+1))
 right:RightT S
 small:∀x∈S,∀k,k < x.n→x.V k < 256
theorem owns_on {w w':World} {B n:Nat} {t:TypeId} {v:Value} {cs:List Value} (h:w.ownsRow B t 1 v n cs) (hb:∀k,B≤k→k < w.heap.size→w'.heap[k]?=w.heap[k]?):w'.ownsRow B t 1 v n cs:=by
 refine ⟨h.1,?_⟩
 rcases h.2 with h0 | ⟨g,cap,cur,e,h1,h2,h3⟩
 · exact .inl h0
 · exact .inr ⟨g,cap,cur,e,h1,(hb g h1 (Array.getElem?_eq_some_iff.1 h2).1).trans h2,h3⟩
theorem OwnPart.on {w w':World} {B:Nat} {p:Part} (h:OwnPart w B p) (hb:∀k,B≤k→k < w.heap.size→w'.heap[k]?=w.heap[k]?):OwnPart w' B p:=by
 rcases h with h | ⟨g,cur,h1,h2,h3,h4⟩
 · exact .inl h
 · exact .inr ⟨g,cur,h1,h2,(hb g h2 (Array.getElem?_eq_some_iff.1 h3).1).trans h3,h4⟩
theorem tquiet {w:World} {f:FuncId} {args:Array Value} {m:Nat} {v:Value} (h:Calls Tryz.prog f args (w.drewN m) fun e w'=>e=.returned v∧w.drewN m=w'):
    Calls Tryz.prog f args (w.drewN m) fun e w''=>e=.returned v∧∃j,w''=w.drewN j:=h.mono fun _ _ hh=>⟨hh.1,m,hh.2.symm⟩
section
variable {B:Nat} {w w':World} {g:Nat} {X:Option Addr} {cx y cy:Nat} {T:List Part} {S:List Sec}
theorem Txt.keep_ (h:Txt B w g X cx y cy T S) (hb:∀k,B≤k→k < w.heap.size→w'.heap[k]?=w.heap[k]?):Txt B w' g X cx y cy T S:=
 ⟨h.head.same (hb g h.lo h.head.lt),h.lo,owns_on h.docs hb,h.same,fun q p hq=>(h.parts q p hq).on hb,owns_on h.starts hb,h.right,h.small⟩
theorem Txt.keep (h:Txt B w g X cx y cy T S) (hb:Below w.heap.size w w'):Txt B w' g X cx y cy T S:=h.keep_ fun k _ hk=>hb.block k hk
theorem Txt.len_ (h:Txt B w g X cx y cy T S):T.length=S.length:=by rw [←h.same,docsP_length]
theorem Txt.c0 (h:Txt B w g X cx y cy T S):w.cell? ⟨g,0,none⟩=some (.slice X S.length cx):=h.head.cell 0
theorem Txt.c1 (h:Txt B w g X cx y cy T S):w.cell? ⟨g,1,none⟩=some (.slice (some ⟨y,0,none⟩) (S.length+1) cy):=h.head.cell 1
theorem Txt.start (h:Txt B w g X cx y cy T S) {d:Nat} (hd:d≤S.length):w.cell? ⟨y,d,none⟩=some (.int .i64 ((offT S d:Nat):Int)):=by
 rw [h.starts.cellAt d (by omega)]
 exact icells_at (offI S) (S.length+1) d (by omega)
theorem Txt.off_le (h:Txt B w g X cx y cy T S) {d:Nat} (hd:d≤S.length):offT S d≤65792:=by
 have h1:=offT_mono hd (Nat.le_refl _)
 have h2:offT S S.length=bytesT S+S.length:=lenT_is S
 have h3:=h.right.1
 have h4:=h.right.2
 omega
theorem Txt.doc (h:Txt B w g X cx y cy T S) {d:Nat} (hd:d < S.length):∃(gx:Nat) (p:Part),X=some ⟨gx,0,none⟩∧T[d]?=some p∧S[d]?=some p.sec∧w.cell? ⟨gx,d,none⟩=some (.slice p.A p.n p.c)∧OwnPart w B p:=by
 obtain ⟨p,hp⟩:∃p,T[d]?=some p:=⟨_,List.getElem?_eq_getElem (by rw [h.len_];exact hd)⟩
 have hS:S[d]?=some p.sec:=by rw [←h.same];exact docsP_at hp
 rcases h.docs.2 with ⟨_,h0⟩ | ⟨gx,cap,cur,e,_⟩
 · omega
 · cases e
   refine ⟨gx,p,rfl,hp,hS,?_,h.parts d p hp⟩
   have hc:=h.docs.cells rfl d _ (pcells_at hp)
   rwa [Addr.add_mid,Nat.zero_add] at hc
theorem tdocs_any (h:Txt B w g X cx y cy T S):Calls Tryz.prog 51 #[.pointer (some ⟨g,0,none⟩)] w fun e w'=>e=.returned (.int .i64 ((S.length:Nat):Int))∧w=w':=by
 have h0:=h.c0
 obtain ⟨k,hk⟩:∃k,S.length=k:=⟨_,rfl⟩
 rw [hk] at h0 ⊢
 clear h hk
 go_enter Tryz.func51,Tryz.ntmps51
 go_wp2_with fail
 go_ret
 exact ⟨rfl,rfl⟩
theorem tlen_any (h:Txt B w g X cx y cy T S):Calls Tryz.prog 46 #[.pointer (some ⟨g,0,none⟩)] w fun e w'=>e=.returned (.int .i64 ((lenT S:Nat):Int))∧∃q,w'=w.drewN q:=by
 have HD0:=Lib.hid (tdocs_any h)
 have HD:∀q,Hid (Calls Tryz.prog 51 #[.pointer (some ⟨g,0,none⟩)] (w.drewN q) fun e w'=>e=.returned (.int .i64 ((S.length:Nat):Int))∧w.drewN q=w'):=fun q=>Lib.hid (tdocs_any (h.keep (below_drewN' (Below.refl _ _) q)))
 have h1:∀q,(w.drewN q).cell? ⟨g,1,none⟩=some (.slice (some ⟨y,0,none⟩) (S.length+1) cy):=fun q=>(h.keep (below_drewN' (Below.refl _ _) q)).c1
 have h2:∀q,(w.drewN q).cell? ⟨y,S.length,none⟩=some (.int .i64 ((lenT S:Nat):Int)):=fun q=>(h.keep (below_drewN' (Below.refl _ _) q)).start (Nat.le_refl _)
 have hr:=h.right.1
 have hcy:=owns_room h.starts
 have h0:S.length=0→lenT S=0:=fun e=>by
  unfold lenT
  rw [e]
  rfl
 obtain ⟨k,hk⟩:∃k,S.length=k:=⟨_,rfl⟩
 obtain ⟨N,hN⟩:∃N,lenT S=N:=⟨_,rfl⟩
 rw [hk,hN] at h2 h0
 rw [hk] at h1 hr HD HD0 hcy
 rw [hN]
 have hcm:cy≤9223372036854775807:=by have:=hcy.2;unfold maxLen at this;omega
 have hcl:=hcy.1
 clear h hk hN hcy
 by_cases hz:k=0
 · obtain rfl:=h0 hz
   subst hz
   go_enter Tryz.func46,Tryz.ntmps46
   go_wp2_with (go_at_call 51;refine HD0.out.mono ?_;rintro e w' ⟨rfl,rfl⟩)
   go_ret
   exact ⟨rfl,0,rfl⟩
 · have hz0:((k:Int)==0)=false:=by rw [beq_eq_false_iff_ne];omega
   go_enter Tryz.func46,Tryz.ntmps46
   go_wp2_with (go_at_call 51;refine HD0.out.mono ?_;rintro e w' ⟨rfl,rfl⟩)
   go_quiet ((go_at_call 51;with_reducible exact tquiet (HD _).out))
   go_wp2_with fail
   go_ret
   exact ⟨rfl,_,rfl⟩
theorem talphabet_any (h:Txt B w g X cx y cy T S):Calls Tryz.prog 30 #[.pointer (some ⟨g,0,none⟩)] w fun e w'=>e=.returned (.int .i64 ((S.length+256:Nat):Int))∧w=w':=by
 have HD:=Lib.hid (tdocs_any h)
 have hr:=h.right.1
 obtain ⟨k,hk⟩:∃k,S.length=k:=⟨_,rfl⟩
 rw [hk] at HD hr ⊢
 have hw:IntKind.i64.wrap ((k:Int)+256)=((k+256:Nat):Int):=by rw [IntWalk.i64_in _ (by omega)];omega
 clear h hk
 go_enter Tryz.func30,Tryz.ntmps30
 go_wp2_with (go_at_call 51;refine HD.out.mono ?_;rintro e w' ⟨rfl,rfl⟩)
 go_ret
 exact ⟨rfl,rfl⟩
theorem clone_none (w:World):Calls Tryz.prog 45 #[.slice none 0 0] w fun e w'=>e=.returned (.slice none 0 0)∧w=w':=by
 have hnil:=fun W=>Lib.run_eql_slice_nil (P:=Tryz.prog) W 23 5 none 0 0 0 0 Tryz.underlying23
 go_enter Tryz.func45,Tryz.ntmps45
 go_wp2_with fail
 go_ret
 exact ⟨rfl,rfl⟩
theorem tclone_any (p:Part) (w:World) (hn:p.n≤1048576) (hA:p.A=none→p.n=0∧p.c=0) (ho:Bys w w.heap.size p.A p.n p.V):
    Calls Tryz.prog 45 #[.slice p.A p.n p.c] w fun e w'=>∃q:Part,e=.returned (.slice q.A q.n q.c)∧q.sec=p.sec∧w'.ownsRow w.heap.size 5 1 (.slice q.A q.n q.c) q.n (ycells q.V q.n)∧OwnPart w' w.heap.size q∧Below w.heap.size w w':=by
 obtain ⟨A,n,c,V⟩:=p
 rcases A with _ | ad
 · obtain ⟨h1,h2⟩:=hA rfl
   have h1:n=0:=h1
   have h2:c=0:=h2
   subst h1 h2
   refine (clone_none w).mono ?_
   rintro e w' ⟨rfl,rfl⟩
   exact ⟨⟨none,0,0,V⟩,rfl,rfl,World.ownsRow_nil _ _ _ _,.inl ⟨rfl,rfl,rfl⟩,Below.refl _ _⟩
 · refine (clone_any ad n c V w hn ho).mono ?_
   rintro e w' ⟨v,rfl,hv,hb⟩
   obtain ⟨A',c',rfl,_,_,h⟩:=own_cut hv (Nat.le_refl _) (fun k hk=>(ho k hk).elim fun _ h=>h.2.2.2)
   exact ⟨⟨A',n,c',V⟩,rfl,rfl,hv,h,hb⟩
end
end Go.Proofs.YtcidobpbepeakaaGreat

namespace Go.Proofs.YtcidobpbepeakaaGreat
open Go.RowKit
theorem tfit_any (P:Option Addr) (c:Nat) (L:List Part) (B:Nat) (w:World) (hL:L.length≤maxLen) (ho:Secs w B P L):
    Calls Tryz.prog 44 #[.slice P L.length c] w fun e w'=>e=.returned (.bool (decide (L.length≤256∧bytesT (docsP L)≤65536)))∧w=w':=by
 have HO:=Lib.hid ho
 clear ho
 obtain ⟨k,hk⟩:∃k,L.length=k:=⟨_,rfl⟩
 rw [hk] at hL ⊢
 have HK:=Lib.hid hk
 have hkl:k≤9223372036854775807:=by unfold maxLen at hL;omega
 obtain ⟨r,hr⟩:∃r,decide (k≤256∧bytesT (docsP L)≤65536)=r:=⟨_,rfl⟩
 rw [hr]
 have HR:=Lib.hid hr
 clear hk hL hr
 by_cases h256:256 < k
 · have hd:decide ((256:Int) < (k:Int))=true:=by simp;omega
   obtain rfl:r=false:=by rw [←HR.out];exact decide_eq_false (by omega)
   go_enter Tryz.func44,Tryz.ntmps44
   go_wp2_with fail
   go_ret
   exact ⟨rfl,rfl⟩
 · have hd:decide ((256:Int) < (k:Int))=false:=by simp;omega
   go_enter Tryz.func44,Tryz.ntmps44
   go_wp2_with fail
   go_loop [3,11] (fun s v=>∃i m:Nat,i≤k∧v=.int .i64 (i:Int)∧s=.int .i64 (m:Int)∧m≤65536∧Hid (bytesT ((docsP L).take i)+m=65536)) (fun _ v=>k - (intOf v).toNat)
   case atStart=>exact ⟨0,65536,Nat.zero_le _,rfl,rfl,Nat.le_refl _,Lib.hid (by simp [bytesT])⟩
   case round=>
    obtain ⟨i,m,hi,rfl,rfl,hm,hsum⟩:=hrel
    by_cases hlt:i < k
    · obtain ⟨p,hp⟩:∃p,L[i]?=some p:=⟨_,List.getElem?_eq_getElem (by rw [HK.out];exact hlt)⟩
      obtain ⟨ad,rfl,hb,hc,hnc,hcm,_,_⟩:=HO.out i p hp
      have hpm:p.c≤9223372036854775807:=by unfold maxLen at hcm;omega
      have HN:=Lib.hid (docs_len hp)
      have HLe:=Lib.hid (bytesT_le (S:=docsP L) (i+1))
      clear hp hcm
      obtain ⟨A,z,cc,V⟩:=p
      have hlti:(i:Int) < (k:Int):=by omega
      have HN2:Hid (bytesT ((docsP L).take (i+1))=bytesT ((docsP L).take i)+z):=HN
      by_cases hz:m < z
      · have hd2:decide ((m:Int) < (z:Int))=true:=by simp;omega
        obtain rfl:r=false:=by
         rw [←HR.out]
         exact decide_eq_false (by
          have h1:=HN2.out
          have h2:=HLe.out
          have h3:=hsum.out
          omega)
        go_wp2_with fail
        go_ret
        exact ⟨rfl,rfl⟩
      · have hd2:decide ((m:Int) < (z:Int))=false:=by simp;omega
        have hw:IntKind.i64.wrap ((m:Int) - (z:Int))=((m - z:Nat):Int):=by rw [IntWalk.i64_in _ (by omega)];omega
        have HS:Hid (bytesT ((docsP L).take (i+1))+(m - z)=65536):=Lib.hid (by
         have h1:=HN2.out
         have h3:=hsum.out
         omega)
        clear HN HN2 hsum
        go_wp2_with fail
        go_round
        case rel=>exact ⟨i+1,m - z,by omega,by go_num,rfl,by omega,HS⟩
        case measure=>simp [intOf];omega
    · obtain rfl:i=k:=by omega
      obtain rfl:r=true:=by
       rw [←HR.out]
       exact decide_eq_true ⟨by omega,by
        have h3:=hsum.out
        rw [List.take_of_length_le (by rw [docsP_length,HK.out];exact Nat.le_refl _)] at h3
        omega⟩
      go_wp2_with fail
      go_ret
      exact ⟨rfl,rfl⟩
def laidI (U:Nat→Int) (m k:Nat) (V:Nat→Nat):Nat→Int:=fun j=>if j < m then U j else ((k+V (j - m):Nat):Int)
theorem laidI_zero (U:Nat→Int) (m k:Nat) (V:Nat→Nat):icells (laidI U m k V) m=icells U m:=by
 unfold icells
 refine List.map_congr_left fun j hj=>?_
 have hj:j < m:=List.mem_range.1 hj
 unfold laidI
 rw [if_pos hj]
theorem laidI_at (U:Nat→Int) (m k i:Nat) (V:Nat→Nat):laidI U m k V (m+i)=((k+V i:Nat):Int):=by
 unfold laidI
 rw [if_neg (by omega),Nat.add_sub_cancel_left]
section
variable {B:Nat} {w w':World} {g:Nat} {X:Option Addr} {cx y cy:Nat} {T:List Part} {S:List Sec}
theorem tlaid_any (h:Txt B w g X cx y cy T S) (Br:Nat) (sv:Value) (m:Nat) (U:Nat→Int) (A:Option Addr) (n c:Nat) (V:Nat→Nat) (hBr:Br≤w.heap.size) (hrow:w.ownsRow Br 3 1 sv m (icells U m))
    (hmn:m+n≤4194304) (hA:A=none→n=0∧c=0) (ho:Bys w Br A n V) (hkeep:∀W,Below Br w W→Txt B W g X cx y cy T S):
    Calls Tryz.prog 47 #[.pointer (some ⟨g,0,none⟩),sv,.slice A n c] w fun e w'=>∃u,e=.returned u∧w'.ownsRow Br 3 1 u (m+n) (icells (laidI U m S.length V) (m+n))∧Below Br w w':=by
 have HD:Hid (∀W,Below Br w W→Hid (Calls Tryz.prog 51 #[.pointer (some ⟨g,0,none⟩)] W fun e w'=>e=.returned (.int .i64 ((S.length:Nat):Int))∧W=w')):=Lib.hid fun W hW=>Lib.hid (tdocs_any (hkeep W hW))
 have hr:=h.right.1
 have HO:=Lib.hid ho
 obtain ⟨k,hk⟩:∃k,S.length=k:=⟨_,rfl⟩
 rw [hk] at HD hr ⊢
 have HRow:Hid (w.ownsRow Br 3 1 sv (m+0) (icells (laidI U m k V) (m+0))):=Lib.hid (by rw [Nat.add_zero,laidI_zero];exact hrow)
 clear h hk hkeep hrow ho
 go_enter Tryz.func47,Tryz.ntmps47
 go_wp2_with fail
 go_loopw [1,11] (fun s v wr=>∃i:Nat,i≤n∧v=.int .i64 (i:Int)∧Hid (wr.ownsRow Br 3 1 s (m+i) (icells (laidI U m k V) (m+i)))∧Below Br w wr) (fun _ v _=>n - (intOf v).toNat)
 case atStart=>exact ⟨0,Nat.zero_le _,rfl,HRow,Below.refl _ _⟩
 case round=>
  obtain ⟨i,hi,rfl,hrow,hb⟩:=hrel
  have hbs:=hb.size
  by_cases hlt:i < n
  · have hlti:(i:Int) < (n:Int):=by omega
    obtain ⟨ad,rfl,_,hc,hv⟩:=(HO.out.below hb) i hlt
    have H1:=HD.out wr hb
    have hat:=laidI_at U m k i V
    have hmi:m+i≤4194304:=by omega
    generalize V i=vi at hc hv hat
    have hw1:IntKind.i64.wrap ((k:Int)+(vi:Int))=((k+vi:Nat):Int):=by rw [IntWalk.i64_in _ (by omega)];omega
    have hw2:IntKind.i64.wrap (vi:Int)=(vi:Int):=IntWalk.i64_in _ (by omega)
    have hBs:Br≤wr.heap.size:=by omega
    have HAt:=Lib.hid hat
    clear hat
    go_wp2_with (first
     | (go_at_call 51;(with_reducible refine H1.out.mono ?_);rintro e w' ⟨rfl,rfl⟩)
     | (at_builtin;refine step_append_int rfl (.tmp 15) (.tmp 21) rfl rfl hrow.out ((k+vi:Nat):Int) rfl hBs hmi ?_;intro v3 w3 hown3 hb3))
    go_roundw
    case rel=>exact ⟨i+1,by omega,by go_num,Lib.hid (by
     have h:=hown3.out
     rw [←HAt.out,←icells_snoc] at h
     exact h),hb.trans hb3⟩
    case measure=>simp [intOf];omega
  · obtain rfl:i=n:=by omega
    go_wp2_with fail
    go_ret
    exact ⟨_,rfl,hrow.out,hb⟩
theorem make_ints (w:World) (n:Nat) (hn:n≤4194304):(Instr.makeSlice 34 (.int .i64 0) (.int .i64 (n:Int))).run Tryz.prog w=.ok (.slice (some ⟨w.heap.size,0,none⟩) 0 n) (w.alloc (.cells (madeCells (Value.int .i64 0).cells (n*1)) 3)):=by
 obtain ⟨i0,hi0,hz0,hs0,hb0⟩:=info_parts info_i64
 have h:=run_make (P:=Tryz.prog) w 34 3 i0 _ Tryz.underlying34 hi0 hz0 .i64 .i64 0 (n:Int) (by omega) (by omega) (by rw [hb0];omega) (by omega)
 rw [hs0] at h
 exact h
theorem made_ints (w:World) (n:Nat) (hn:n≤4194304):(w.alloc (.cells (madeCells (Value.int .i64 0).cells (n*1)) 3)).ownsRow w.heap.size 3 1 (.slice (some ⟨w.heap.size,0,none⟩) 0 n) 0 []:=
 World.ownsRow_made w _ n (Nat.le_refl _) (by unfold maxLen;omega) (size_madeCells _ _)
theorem tpattern_any (h:Txt B w g X cx y cy T S) (A:Option Addr) (n c:Nat) (V:Nat→Nat) (hn:n≤4000000) (hA:A=none→n=0∧c=0) (ho:Bys w w.heap.size A n V):
    Calls Tryz.prog 39 #[.pointer (some ⟨g,0,none⟩),.slice A n c] w fun e w'=>∃u,e=.returned u∧w'.ownsRow w.heap.size 3 1 u n (icells (fun k=>((S.length+V k:Nat):Int)) n)∧Below w.heap.size w w':=by
 have hmk:=make_ints w n (by omega)
 have hrow:=made_ints w n (by omega)
 obtain ⟨W1,hW1⟩:∃W,w.alloc (.cells (madeCells (Value.int .i64 0).cells (n*1)) 3)=W:=⟨_,rfl⟩
 have hb1:Below w.heap.size w W1:=by rw [←hW1];exact (Below.refl _ _).alloc (Nat.le_refl _) _
 rw [hW1] at hmk hrow
 have hL:=Lib.hid (tlaid_any (h.keep hb1) w.heap.size _ 0 (fun _=>0) A n c V hb1.size hrow (by omega) hA (ho.below hb1) (fun W hW=>h.keep (hb1.trans hW)))
 have HB1:=Lib.hid hb1
 clear h hrow ho hb1 hW1
 rw [Nat.zero_add] at hL
 go_enter Tryz.func39,Tryz.ntmps39
 go_wp2_with (go_at_call 47;(with_reducible refine hL.out.mono ?_);rintro e w2 ⟨u,rfl,hu,hb2⟩)
 go_ret
 refine ⟨_,rfl,?_,HB1.out.trans hb2⟩
 have e:icells (laidI (fun _=>0) 0 S.length V) n=icells (fun k=>((S.length+V k:Nat):Int)) n:=by
  unfold icells
  refine List.map_congr_left fun j _=>?_
  unfold laidI
  rw [if_neg (Nat.not_lt_zero j)]
  rfl
 rw [←e]
 exact hu
theorem sym_next {S:List Sec} {d:Nat} {x:Sec} (h:S[d]?=some x):icells (laidI (symI S) (offT S d) S.length x.V) (offT S d+x.n)++[.int .i64 (d:Int)]=icells (symI S) (offT S (d+1)):=by
 rw [offT_succ h,show offT S d+(x.n+1)=offT S d+x.n+1 by omega,icells_snoc]
 congr 1
 · unfold icells
   refine List.map_congr_left fun j hj=>?_
   have hj:j < offT S d+x.n:=List.mem_range.1 hj
   unfold laidI
   split
   · rfl
   · unfold symI
     have e:j=offT S d+(j - offT S d):=by omega
     rw [e,sym_byte h (by omega),Nat.add_sub_cancel_left]
 · unfold symI
   rw [sym_end h]
theorem tsymbols_any (h:Txt B w g X cx y cy T S):
    Calls Tryz.prog 28 #[.pointer (some ⟨g,0,none⟩)] w fun e w'=>∃u,e=.returned u∧w'.ownsRow w.heap.size 3 1 u (lenT S) (icells (symI S) (lenT S))∧Below w.heap.size w w':=by
 have HT:Hid (∀W,Below w.heap.size w W→Txt B W g X cx y cy T S):=Lib.hid fun W hW=>h.keep hW
 have HLen:=Lib.hid ((tlen_any h).mono fun e w' (hh:_∧∃q,w'=w.drewN q)=>(show e=.returned (.int .i64 ((lenT S:Nat):Int))∧Below w.heap.size w w' from ⟨hh.1,by
  obtain ⟨q,hq⟩:=hh.2
  rw [hq]
  exact below_drewN' (Below.refl _ _) q⟩))
 have hr:=h.right.1
 have hcx:=owns_room h.docs
 have HOff:Hid (∀d,d≤S.length→offT S d≤65792):=Lib.hid fun d hd=>h.off_le hd
 obtain ⟨k,hk⟩:∃k,S.length=k:=⟨_,rfl⟩
 rw [hk] at hr hcx HOff
 have hcm:cx≤9223372036854775807:=by have:=hcx.2;unfold maxLen at this;omega
 have hcl:=hcx.1
 have HN:Hid (lenT S=offT S k):=Lib.hid (by unfold lenT;rw [hk])
 have hN:=HOff.out k (Nat.le_refl _)
 rw [←HN.out] at hN
 obtain ⟨N,hNN⟩:∃N,lenT S=N:=⟨_,rfl⟩
 rw [hNN] at HN HLen hN ⊢
 have HK:=Lib.hid hk
 clear h hk hNN hcx
 go_enter Tryz.func28,Tryz.ntmps28
 go_wp2_with fail
 refine HLen.out.mono ?_
 rintro e w1 ⟨rfl,hb1⟩
 have hmk:=make_ints w1 N (by omega)
 have hrow:=made_ints w1 N (by omega)
 obtain ⟨W2,hW2⟩:∃W,w1.alloc (.cells (madeCells (Value.int .i64 0).cells (N*1)) 3)=W:=⟨_,rfl⟩
 have hb2:Below w1.heap.size w1 W2:=by rw [←hW2];exact (Below.refl _ _).alloc (Nat.le_refl _) _
 rw [hW2] at hmk hrow
 have hB2:=hb1.trans (hb2.mono hb1.size)
 have hrow2:Hid (W2.ownsRow w.heap.size 3 1 (.slice (some ⟨w1.heap.size,0,none⟩) 0 N) (offT S 0) (icells (symI S) (offT S 0))):=Lib.hid (by
  rcases hrow.2 with ⟨e,_⟩ | ⟨g',cap,cur,e,h1,h2⟩
  · cases e
  · exact ⟨rfl,.inr ⟨g',cap,cur,e,Nat.le_trans hb1.size h1,h2⟩⟩)
 have hh:=(HT.out W2 hB2).c0
 rw [HK.out] at hh
 clear hrow hb1 hb2 HLen hW2
 go_wp2_with fail
 go_loopw [3,16] (fun s v wr=>∃d:Nat,d≤k∧v=.int .i64 (d:Int)∧Hid (wr.ownsRow w.heap.size 3 1 s (offT S d) (icells (symI S) (offT S d)))∧Below w.heap.size w wr) (fun _ v _=>k - (intOf v).toNat)
 case atStart=>exact ⟨0,Nat.zero_le _,rfl,hrow2,hB2⟩
 case round=>
  obtain ⟨d,hd,rfl,hrow,hb⟩:=hrel
  have hbs:=hb.size
  by_cases hlt:d < k
  · have hlti:(d:Int) < (k:Int):=by omega
    obtain ⟨gx,p,rfl,hp,hS,hc,hown⟩:=(HT.out wr hb).doc (by rw [HK.out];exact hlt)
    obtain ⟨e1,e2,e3,e4⟩:=hown.bys
    have ho0:=HOff.out d (by omega)
    have ho1:=HOff.out (d+1) (by omega)
    have hsc:=offT_succ hS
    have hby:Bys wr w.heap.size p.A p.n p.V:=by
     obtain ⟨_,p0,_,hp0,_,_,hown0⟩:=(HT.out w (Below.refl _ _)).doc (by rw [HK.out];exact hlt)
     rw [hp] at hp0
     cases hp0
     exact hown0.bys.2.2.2.below hb
    have hpn:p.n≤65792:=by
     have:p.sec.n=p.n:=rfl
     omega
    have HL:=Lib.hid (tlaid_any (HT.out wr hb) w.heap.size u3 (offT S d) (symI S) p.A p.n p.c p.V hbs hrow.out (by omega) e3 hby (fun W hW=>HT.out W (hb.trans hW)))
    have HSy:=Lib.hid (sym_next hS)
    have HSc:=Lib.hid hsc
    clear hp hS hown e1 e2 e3 e4 hby hsc
    obtain ⟨A,z,cc,V⟩:=p
    have HSy:Hid (icells (laidI (symI S) (offT S d) S.length V) (offT S d+z)++[.int .i64 (d:Int)]=icells (symI S) (offT S (d+1))):=HSy
    have HSc:Hid (offT S (d+1)=offT S d+(z+1)):=HSc
    have hmo:offT S d+z≤4194304:=by
     have hpn:z≤65792:=hpn
     omega
    have HL:Hid (Calls Tryz.prog 47 #[.pointer (some ⟨g,0,none⟩),u3,.slice A z cc] wr fun e w'=>∃u,e=.returned u∧w'.ownsRow w.heap.size 3 1 u (offT S d+z) (icells (laidI (symI S) (offT S d) S.length V) (offT S d+z))∧Below w.heap.size wr w'):=HL
    go_wp2_with (first
     | (go_at_call 47;(with_reducible refine HL.out.mono ?_);rintro e w3 ⟨uu,rfl,hu3,hb3⟩;have hB3:=hb.trans hb3;have hs3:=hB3.size)
     | (at_builtin;refine step_append_int rfl (.tmp 24) (.tmp 26) rfl rfl hu3 (d:Int) rfl hs3 hmo ?_;intro v4 w4 hown4 hb4))
    go_roundw
    case rel=>exact ⟨d+1,by omega,by go_num,Lib.hid (by
     have h:=hown4.out
     rw [HSy.out] at h
     rw [HSc.out] at h ⊢
     exact h),hB3.trans hb4⟩
    case measure=>simp [intOf];omega
  · obtain rfl:d=k:=by omega
    go_wp2_with fail
    go_ret
    exact ⟨_,rfl,by rw [HN.out];exact hrow.out,hb⟩
end
end Go.Proofs.YtcidobpbepeakaaGreat

namespace Go.Proofs.YtcidobpbepeakaaGreat
open Go.RowKit
theorem search2_any (F:Nat) (eg:∀args w,(callFunc F args).run Tryz.prog w=.ok (.enter F args) w) (f:Nat→Bool) (n:Nat) (l1 l2:Value) (w:World) (hn:n≤4194304) (hm:∀i j,i≤j→f i=true→f j=true)
    (hc:∀q i,i < n→Calls Tryz.prog F #[.int .i64 ((i:Nat):Int),l1,l2] (w.drewN q) fun e w'=>e=.returned (.bool (f i))∧∃q',w'=(w.drewN q).drewN q'):
    Calls Tryz.prog 67 #[.int .i64 (n:Int),.func (.func F) #[] #[l1,l2]] w fun e w'=>∃j:Nat,j≤n∧e=.returned (.int .i64 (j:Int))∧((∀t,t < j→f t=false)∧(∀t,j≤t→t < n→f t=true))∧∃q,w'=w.drewN q:=by
 have HF:=Lib.hid hc
 have HM:=Lib.hid hm
 clear hc hm
 go_enter Tryz.func67,Tryz.ntmps67
 go_wp2
 go_loopg [5,6] n (fun kx s5 s6 wr=>∃(lo hi q:Nat),s5=.int .i64 lo∧s6=.int .i64 hi∧lo≤hi∧hi≤n∧hi - lo≤kx∧wr=w.drewN q∧
  Hid ((∀t,t < lo→f t=false)∧(∀t,hi≤t→t < n→f t=true)))
 case atStart=>exact ⟨0,n,0,rfl,rfl,Nat.zero_le _,Nat.le_refl _,by omega,rfl,Lib.hid ⟨fun t ht=>absurd ht (Nat.not_lt_zero _),fun t h1 h2=>by omega⟩⟩
 case round=>
  obtain ⟨lo,hi,q,rfl,rfl,hlh,hin,hg,rfl,I⟩:=hrel
  by_cases hlt:lo < hi
  · obtain ⟨md,hmd⟩:∃md:Nat,md=(lo+hi) / 2:=⟨_,rfl⟩
    have hmd1:lo≤md:=by omega
    have hmd2:md < hi:=by omega
    have em:((lo:Int)+(hi:Int)) / 2=(md:Int):=by omega
    have hc:=HF.out q md (by omega)
    clear hmd
    rcases hp:f md with _ | _
    · rw [hp] at hc
      have HC:=Lib.hid hc
      have HP:=Lib.hid hp
      clear hc hp
      go_wp2_with (go_at_fn F;(with_reducible refine HC.out.mono ?_);rintro e w' ⟨rfl,nq,rfl⟩)
      go_roundg (hi - (md+1))
      case measure=>omega
      case rel=>
       refine ⟨md+1,hi,q+nq,by go_num,rfl,by omega,hin,Nat.le_refl _,rfl,Lib.hid ⟨fun t ht=>?_,I.out.2⟩⟩
       rcases e:f t with _ | _
       · rfl
       · have:=HM.out t md (by omega) e
         rw [HP.out] at this
         cases this
    · rw [hp] at hc
      have HC:=Lib.hid hc
      have HP:=Lib.hid hp
      clear hc hp
      go_wp2_with (go_at_fn F;(with_reducible refine HC.out.mono ?_);rintro e w' ⟨rfl,nq,rfl⟩)
      go_roundg (md - lo)
      case measure=>omega
      case rel=>
       exact ⟨lo,md,q+nq,rfl,rfl,by omega,by omega,Nat.le_refl _,rfl,Lib.hid ⟨I.out.1,fun t ht _=>HM.out md t ht HP.out⟩⟩
  · obtain rfl:lo=hi:=by omega
    go_wp2
    go_ret
    exact ⟨lo,hin,rfl,I.out,q,rfl⟩
end Go.Proofs.YtcidobpbepeakaaGreat

namespace Go.Proofs.YtcidobpbepeakaaGreat
open Go.RowKit
section
variable {B:Nat} {w w':World} {g:Nat} {X:Option Addr} {cx y cy:Nat} {T:List Part} {S:List Sec}
theorem tdoc1_any (h:Txt B w g X cx y cy T S) (bt bp i p:Nat) (hi:i < S.length) (ht:w.cell? ⟨bt,0,none⟩=some (.pointer (some ⟨g,0,none⟩))) (hp:w.cell? ⟨bp,0,none⟩=some (.int .i64 (p:Int))):
    Calls Tryz.prog 68 #[.int .i64 (i:Int),.pointer (some ⟨bt,0,none⟩),.pointer (some ⟨bp,0,none⟩)] w fun e w'=>e=.returned (.bool (decide (p < offT S (i+1))))∧∃q,w'=w.drewN q:=by
 have h1:∀q,(w.drewN q).cell? ⟨g,1,none⟩=some (.slice (some ⟨y,0,none⟩) (S.length+1) cy):=fun q=>(h.keep (below_drewN' (Below.refl _ _) q)).c1
 have h2:∀q,(w.drewN q).cell? ⟨y,i+1,none⟩=some (.int .i64 ((offT S (i+1):Nat):Int)):=fun q=>(h.keep (below_drewN' (Below.refl _ _) q)).start (by omega)
 have ht':∀q,(w.drewN q).cell? ⟨bt,0,none⟩=some (.pointer (some ⟨g,0,none⟩)):=fun _=>ht
 have hp':∀q,(w.drewN q).cell? ⟨bp,0,none⟩=some (.int .i64 (p:Int)):=fun _=>hp
 have hr:=h.right.1
 have hcy:=owns_room h.starts
 obtain ⟨k,hk⟩:∃k,S.length=k:=⟨_,rfl⟩
 obtain ⟨z,hz⟩:∃z,offT S (i+1)=z:=⟨_,rfl⟩
 rw [hk] at h1 hr hcy hi
 rw [hz] at h2 ⊢
 have hcm:cy≤9223372036854775807:=by have:=hcy.2;unfold maxLen at this;omega
 have hcl:=hcy.1
 have hw1:IntKind.i64.wrap ((i:Int)+1)=((i+1:Nat):Int):=by rw [IntWalk.i64_in _ (by omega)];omega
 clear h hk hz hcy ht hp
 go_enter Tryz.func68,Tryz.ntmps68
 go_wp2_with fail
 go_quiet (fail)
 go_wp2_with fail
 go_ret
 exact ⟨by simp,_,rfl⟩
theorem tquiet2 {w:World} {f:FuncId} {args:Array Value} {m:Nat} {v:Value} (h:Calls Tryz.prog f args (w.drewN m) fun e w'=>e=.returned v∧∃q,w'=(w.drewN m).drewN q):
    Calls Tryz.prog f args (w.drewN m) fun e w''=>e=.returned v∧∃j,w''=w.drewN j:=h.mono fun _ _ hh=>⟨hh.1,hh.2.elim fun q hq=>⟨m+q,hq.trans (World.drewN_drewN _ _ _)⟩⟩
theorem docI_out {S:List Sec} {p:Int} (h:p < 0∨((lenT S:Nat):Int)≤p):docI S p=(-1, -1):=by
 unfold docI
 by_cases h0:p < 0
 · rw [if_pos h0]
 · rw [if_neg h0,locT_none (by omega)]
theorem docI_in {S:List Sec} {p d:Nat} (hp:p < lenT S) (hd:d≤S.length) (h1:∀t,t < d→decide (p < offT S (t+1))=false) (h2:∀t,d≤t→t < S.length→decide (p < offT S (t+1))=true):d < S.length∧offT S d≤p∧docI S (p:Int)=((d:Int),(p:Int) - ((offT S d:Nat):Int)):=by
 obtain ⟨d',o,x,hx,ho,rfl⟩:=locT_some hp
 have hd':=(List.getElem?_eq_some_iff.1 hx).1
 have hs:=offT_succ hx
 have e:d=d':=by
  rcases Nat.lt_trichotomy d d' with h | h | h
  · have h3:=of_decide_eq_true (h2 d (Nat.le_refl _) (by omega))
    have h4:=offT_mono (S:=S) (e:=d') (d:=d+1) h (by omega)
    omega
  · exact h
  · have h3:=of_decide_eq_false (h1 d' h)
    omega
 subst e
 refine ⟨hd',by omega,?_⟩
 rw [docI_at hx ho]
 congr 1
 omega
theorem tdoc_any (h:Txt B w g X cx y cy T S) (p:Int) (hp:(Lit.int .i64 p).wf=true):
    Calls Tryz.prog 40 #[.pointer (some ⟨g,0,none⟩),.int .i64 p] w fun e w'=>e=.returned (.tuple #[.int .i64 (docI S p).1,.int .i64 (docI S p).2])∧Below w.heap.size w w':=by
 obtain ⟨W,hW⟩:∃W,(w.alloc (.cells #[.pointer (some ⟨g,0,none⟩)] 63)).alloc (.cells #[.int .i64 p] 3)=W:=⟨_,rfl⟩
 have hbW:Below w.heap.size w W:=by rw [←hW];exact ((Below.refl _ _).alloc (Nat.le_refl _) _).alloc (by rw [size_alloc];omega) _
 have l1:=lies_new w 63 [.pointer (some ⟨g,0,none⟩)]
 have l2:=lies_new (w.alloc (.cells #[.pointer (some ⟨g,0,none⟩)] 63)) 3 [.int .i64 p]
 have c1:∀q,(W.drewN q).cell? ⟨w.heap.size,0,none⟩=some (.pointer (some ⟨g,0,none⟩)):=fun q=>by rw [←hW];exact (l1.alloc _).cell 0
 have c2:∀q,(W.drewN q).cell? ⟨w.heap.size+1,0,none⟩=some (.int .i64 p):=fun q=>by rw [←hW];rw [size_alloc] at l2;exact l2.cell 0
 have hT:∀q,Txt B (W.drewN q) g X cx y cy T S:=fun q=>h.keep (below_drewN' hbW q)
 have HL:∀q,Hid (Calls Tryz.prog 46 #[.pointer (some ⟨g,0,none⟩)] (W.drewN q) fun e w'=>e=.returned (.int .i64 ((lenT S:Nat):Int))∧∃q',w'=(W.drewN q).drewN q'):=fun q=>Lib.hid (tlen_any (hT q))
 have HD:∀q,Hid (Calls Tryz.prog 51 #[.pointer (some ⟨g,0,none⟩)] (W.drewN q) fun e w'=>e=.returned (.int .i64 ((S.length:Nat):Int))∧W.drewN q=w'):=fun q=>Lib.hid (tdocs_any (hT q))
 have hpb:=i64_in hp
 have hcy:=owns_room h.starts
 have hr:=h.right.1
 have hcm:cy≤9223372036854775807:=by have:=hcy.2;unfold maxLen at this;omega
 have hcl:=hcy.1
 have hoff:lenT S≤65792:=h.off_le (Nat.le_refl _)
 by_cases hin:0≤p∧p < ((lenT S:Nat):Int)
 · obtain ⟨m,rfl⟩:∃m:Nat,p=(m:Int):=⟨p.toNat,by omega⟩
   have hm:m < lenT S:=by omega
   have HS:∀q,Hid (Calls Tryz.prog 67 #[.int .i64 ((S.length:Nat):Int),.func (.func 68) #[] #[.pointer (some ⟨w.heap.size,0,none⟩),.pointer (some ⟨w.heap.size+1,0,none⟩)]] (W.drewN q) fun e w'=>∃j:Nat,j≤S.length∧e=.returned (.int .i64 (j:Int))∧((∀t,t < j→decide (m < offT S (t+1))=false)∧(∀t,j≤t→t < S.length→decide (m < offT S (t+1))=true))∧∃q',w'=(W.drewN q).drewN q'):=fun q=>Lib.hid (search2_any 68 (enters_of Tryz.func68 (by kernel_rfl) rfl) (fun i=>decide (m < offT S (i+1))) S.length _ _ (W.drewN q) (by omega) (fun i j hij hi=>by
       by_cases hj:j < S.length
       · have h1:=of_decide_eq_true hi
         have h2:=offT_mono (S:=S) (e:=j+1) (d:=i+1) (by omega) (by omega)
         exact decide_eq_true (by omega)
       · have h1:=of_decide_eq_true hi
         have h2:offT S (i+1)≤offT S (j+1):=by
          unfold offT
          rw [List.take_of_length_le (l:=S) (i:=j+1) (by omega),←List.take_append_drop (i+1) S,List.map_append,List.sum_append,List.take_append_drop]
          omega
         exact decide_eq_true (by omega)) (fun q' i hi=>tdoc1_any (h.keep (below_drewN' (below_drewN' hbW q) q')) _ _ i m hi (c1 (q+q')) (c2 (q+q'))))
   have HDI:Hid (∀d,d≤S.length→(∀t,t < d→decide (m < offT S (t+1))=false)→(∀t,d≤t→t < S.length→decide (m < offT S (t+1))=true)→d < S.length∧offT S d≤m∧docI S (m:Int)=((d:Int),(m:Int) - ((offT S d:Nat):Int))):=Lib.hid fun d hd h1 h2=>docI_in hm hd h1 h2
   have h1:∀q,(W.drewN q).cell? ⟨g,1,none⟩=some (.slice (some ⟨y,0,none⟩) (S.length+1) cy):=fun q=>(hT q).c1
   have h2:Hid (∀q d,d≤S.length→(W.drewN q).cell? ⟨y,d,none⟩=some (.int .i64 ((offT S d:Nat):Int))):=Lib.hid fun q d hd=>(hT q).start hd
   obtain ⟨N,hN⟩:∃N,lenT S=N:=⟨_,rfl⟩
   obtain ⟨k,hk⟩:∃k,S.length=k:=⟨_,rfl⟩
   rw [hN] at HL hm hoff
   rw [hk] at HD HS HDI h1 h2 hcl hr
   have hd1:decide ((m:Int) < 0)=false:=decide_eq_false (by omega)
   have hd2:decide ((N:Int)≤(m:Int))=false:=decide_eq_false (by omega)
   have HD0:=HD 0
   have HB:=Lib.hid hbW
   have HW:=Lib.hid hW
   clear h hT hW hbW l1 l2 hcy hN hk hp hin
   go_enter Tryz.func40,Tryz.ntmps40
   go_wp2_with fail
   rw [HW.out]
   go_quiet ((go_at_call 46;with_reducible exact tquiet2 (HL _).out))
   go_wp2_with (first
    | (go_at_call 51;(with_reducible refine (HD _).out.mono ?_);rintro e w' ⟨rfl,rfl⟩)
    | (go_at_call 67;(with_reducible refine (HS _).out.mono ?_);rintro e w2 ⟨d,hdk,rfl,⟨hlo,hhi⟩,nq2,rfl⟩;obtain ⟨hd3,hom,hdi⟩:=HDI.out d hdk hlo hhi;have hst:=fun q=>h2.out q d hdk;have HDd:=Lib.hid hdi))
   clear hlo hhi hdi
   have hsub:IntKind.i64.wrap ((m:Int) - ((offT S d:Nat):Int))=(m:Int) - ((offT S d:Nat):Int):=IntWalk.i64_in _ (by omega)
   generalize offT S d=od at hst hom HDd hsub
   go_quiet (fail)
   go_wp2_with fail
   go_ret2
   rw [HDd.out]
   exact ⟨rfl,below_drewN' (below_drewN' HB.out _) _⟩
 · rw [docI_out (by omega)]
   obtain ⟨N,hN⟩:∃N,lenT S=N:=⟨_,rfl⟩
   rw [hN] at HL hin
   have HB:=Lib.hid hbW
   have HW:=Lib.hid hW
   have hcond:decide (p < 0)=true∨(decide (p < 0)=false∧decide ((N:Int)≤p)=true):=by
    by_cases h0:p < 0
    · exact .inl (decide_eq_true h0)
    · exact .inr ⟨decide_eq_false h0,decide_eq_true (by omega)⟩
   clear h hT hW hbW l1 l2 hcy hN hp hin HD
   rcases hcond with hd1 | ⟨hd1,hd2⟩
   all_goals
    go_enter Tryz.func40,Tryz.ntmps40
    go_wp2_with fail
    rw [HW.out]
    go_quiet ((go_at_call 46;with_reducible exact tquiet2 (HL _).out))
    go_wp2_with fail
    go_ret2
    exact ⟨rfl,below_drewN' HB.out _⟩
end
end Go.Proofs.YtcidobpbepeakaaGreat

namespace Go.Proofs.YtcidobpbepeakaaGreat
open Go.RowKit
attribute [local go_sem ↓] Go.wp_at_zero Go.wp_at_succ
theorem owns_ne {w:World} {B n g:Nat} {t t':TypeId} {v:Value} {cs cs':List Value} (h:w.ownsRow B t 1 v n cs) (hl:Lies w g t' cs') (ht:t≠t'):v.ownBlock≠some g:=by
 intro e
 rcases h.2 with ⟨rfl,_⟩ | ⟨g',cap,cur,rfl,_,hg,_⟩
 · cases e
 · have e:some g'=some g:=e
   cases e
   unfold Lies at hl
   rw [hl] at hg
   simp at hg
   exact ht hg.2.symm
structure NIn (w wr:World) (L:List Part) (g i j:Nat) (dv sv:Value) (T:List Part):Prop where
 head:Lies wr g 88 [dv,sv]
 lo:w.heap.size≤g
 docs:wr.ownsRow w.heap.size 23 1 dv i (pcells T)
 many:T.length=i
 same:∀(q:Nat) (p p0:Part),T[q]?=some p→L[q]?=some p0→p.sec=p0.sec
 parts:∀(q:Nat) (p:Part),T[q]?=some p→OwnPart wr w.heap.size p
 starts:wr.ownsRow w.heap.size 3 1 sv (j+1) (icells (offI (docsP L)) (j+1))
 below:Below w.heap.size w wr
section
variable {w wr w1 w2:World} {L T:List Part} {g i j:Nat} {dv sv:Value}
theorem NIn.keep (h:NIn w wr L g i j dv sv T) (hb:Below wr.heap.size wr w1):NIn w w1 L g i j dv sv T:=
 ⟨h.head.below hb h.head.lt,h.lo,ownsRow_keep h.docs hb,h.many,h.same,fun q p hq=>(h.parts q p hq).below hb,ownsRow_keep h.starts hb,h.below.trans (hb.mono h.below.size)⟩
theorem NIn.ne1 (h:NIn w wr L g i j dv sv T):dv.ownBlock≠some g:=owns_ne h.docs h.head (by decide)
theorem NIn.ne2 (h:NIn w wr L g i j dv sv T):sv.ownBlock≠some g:=owns_ne h.starts h.head (by decide)
theorem NIn.ne3 (h:NIn w wr L g i j dv sv T):sv.ownBlock=none∨sv.ownBlock≠dv.ownBlock:=by
 rcases h.docs.2 with ⟨e,_⟩ | ⟨g',cap,cur,e,_,hg,_⟩
 · subst e
   by_cases hn:sv.ownBlock=none
   · exact .inl hn
   · exact .inr hn
 · subst e
   exact .inr (owns_ne (g:=g') (cs':=cur.toList) h.starts (by unfold Lies;rw [hg]) (by decide))
theorem NIn.snoc {x:Part} {gg cap:Nat} (h:NIn w w1 L g i j dv sv T) (p:Part) (hp:L[i]?=some p) (hx:x.sec=p.sec) (hxo:OwnPart w1 w.heap.size x)
    (hown:w2.ownsRow w.heap.size 23 1 (.slice (some ⟨gg,0,none⟩) (i+1) cap) (i+1) (pcells T++[.slice x.A x.n x.c])) (hgrow:(w1.alloc (.cells #[.slice x.A x.n x.c] 23)).grownBy w2 dv.ownBlock):
    NIn w (w2.setCell ⟨g,0,none⟩ (.slice (some ⟨gg,0,none⟩) (i+1) cap)) L g (i+1) j (.slice (some ⟨gg,0,none⟩) (i+1) cap) sv (T++[x]):=by
 have ha:w1.grownBy w2 dv.ownBlock:=grownBy_trans (World.grownBy_alloc w1 _ _) hgrow
 have h1:=h.head.grown ha (fun e=>h.ne1 e.symm)
 have hgg:g≠gg:=fun e=>by
  have h2:=owns_ne hown h1 (by decide)
  exact h2 (by rw [e];rfl)
 have hpart:∀(p:Part),OwnPart w1 w.heap.size p→OwnPart (w2.setCell ⟨g,0,none⟩ (.slice (some ⟨gg,0,none⟩) (i+1) cap)) w.heap.size p:=fun p hp=>by
  have h2:=hp.grown h.docs ha
  rcases h2 with h2 | ⟨gp,cur,e1,e2,e3,e4⟩
  · exact .inl h2
  · refine .inr ⟨gp,cur,e1,e2,(Below.heap_setCell w2 ⟨g,0,none⟩ _ gp (fun e=>?_)).trans e3,e4⟩
    have e:gp=g:=e
    subst e
    unfold Lies at h1
    rw [h1] at e3
    simp at e3
 refine ⟨h1.put 0 _,h.lo,?_,by rw [List.length_append,h.many];rfl,fun q p' p0 hq h0=>?_,fun q p' hq=>?_,?_,?_⟩
 · rw [pcells_snoc]
   exact hown.kept (grownBy_put (g:=g) (grownBy_of_below (Below.refl _ _) _) 0 _) (.inr (fun e=>hgg (by injection e with e;exact e.symm)))
 · rcases snoc_at h.many hq with ⟨e1,e2⟩ | ⟨rfl,rfl⟩
   · exact h.same q p' p0 e2 h0
   · rw [hp] at h0
     cases h0
     exact hx
 · rcases snoc_at h.many hq with ⟨e1,e2⟩ | ⟨rfl,rfl⟩
   · exact hpart _ (h.parts q p' e2)
   · exact hpart _ hxo
 · have h2:=h.starts.kept ha h.ne3
   exact h2.kept (grownBy_put (g:=g) (grownBy_of_below (Below.refl _ _) _) 0 _) (.inr h.ne2)
 · exact (h.below.grown ha h.below.size (fun k hk=>(h.docs.lt k hk).1)).setCell h.lo _
theorem NIn.next {gg cap:Nat} {x:Int} (h:NIn w wr L g i j dv sv T) (hx:x=offI (docsP L) (j+1)) (hg:wr.grownBy w1 none)
    (hown:w2.ownsRow w.heap.size 3 1 (.slice (some ⟨gg,0,none⟩) (j+1+1) cap) (j+1+1) (icells (offI (docsP L)) (j+1)++[.int .i64 x])) (hgrow:w1.grownBy w2 sv.ownBlock):
    NIn w (w2.setCell ⟨g,1,none⟩ (.slice (some ⟨gg,0,none⟩) (j+1+1) cap)) L g i (j+1) dv (.slice (some ⟨gg,0,none⟩) (j+1+1) cap) T:=by
 subst hx
 have ha:wr.grownBy w2 sv.ownBlock:=grownBy_trans ⟨hg.os,hg.tape,hg.output,hg.size,fun k hk _=>hg.block k hk (by simp)⟩ hgrow
 have h1:=h.head.grown ha (fun e=>h.ne2 e.symm)
 have hgg:g≠gg:=fun e=>by
  have h2:=owns_ne hown h1 (by decide)
  exact h2 (by rw [e];rfl)
 have hne:dv.ownBlock=none∨dv.ownBlock≠sv.ownBlock:=by
  rcases h.ne3 with e | e
  · by_cases hd:dv.ownBlock=none
    · exact .inl hd
    · exact .inr (by rw [e];exact hd)
  · exact .inr (fun e'=>e e'.symm)
 refine ⟨h1.put 1 _,h.lo,?_,h.many,h.same,fun q p hq=>?_,?_,?_⟩
 · have h2:=h.docs.kept ha hne
   exact h2.kept (grownBy_put (g:=g) (grownBy_of_below (Below.refl _ _) _) 1 _) (.inr h.ne1)
 · rcases h.parts q p hq with h2 | ⟨gp,cur,e1,e2,e3,e4⟩
   · exact .inl h2
   · have hlt:=(Array.getElem?_eq_some_iff.1 e3).1
     have e5:w2.heap[gp]?=wr.heap[gp]?:=ha.block gp hlt (fun e=>by
      have h2:=owns_ne (g:=gp) (cs':=cur.toList) h.starts (by unfold Lies;rw [e3]) (by decide)
      exact h2 e.symm)
     refine .inr ⟨gp,cur,e1,e2,(Below.heap_setCell w2 ⟨g,1,none⟩ _ gp (fun e=>?_)).trans (e5.trans e3),e4⟩
     have e:gp=g:=e
     subst e
     have h3:=h.head
     unfold Lies at h3
     rw [h3] at e3
     simp at e3
 · rw [icells_snoc]
   exact hown.kept (grownBy_put (g:=g) (grownBy_of_below (Below.refl _ _) _) 1 _) (.inr (fun e=>hgg (by injection e with e;exact e.symm)))
 · exact (h.below.grown ha h.below.size (fun k hk=>(h.starts.lt k hk).1)).setCell h.lo _
theorem NIn.txt {P:Option Addr} {k:Nat} (h:NIn w wr L g k k dv sv T) (hk:L.length=k) (hr:RightT (docsP L)) (ho:Secs w w.heap.size P L):∃(y cx cy:Nat) (X:Option Addr),Txt w.heap.size wr g X cx y cy T (docsP L):=by
 have hS:(docsP L).length=k:=by rw [docsP_length,hk]
 have hd:docsP T=docsP L:=by
  apply List.ext_getElem?
  intro q
  by_cases hq:q < k
  · obtain ⟨p',hp'⟩:∃p,T[q]?=some p:=⟨_,List.getElem?_eq_getElem (by rw [h.many];exact hq)⟩
    obtain ⟨p,hp⟩:∃p,L[q]?=some p:=⟨_,List.getElem?_eq_getElem (by rw [hk];exact hq)⟩
    rw [docsP_at hp',docsP_at hp,h.same q p' p hp' hp]
  · rw [List.getElem?_eq_none (by rw [docsP_length,h.many];omega),List.getElem?_eq_none (by rw [docsP_length,hk];omega)]
 obtain ⟨X,cx,rfl⟩:∃(X:Option Addr) (cx:Nat),dv=.slice X k cx:=by
  rcases h.docs.2 with ⟨e,h0⟩ | ⟨g',cap,cur,e,_⟩
  · exact ⟨none,0,by rw [e,h0]⟩
  · exact ⟨_,cap,e⟩
 obtain ⟨y,cy,rfl,_,_⟩:=h.starts.form (by omega)
 refine ⟨y,cx,cy,X,?_,h.lo,?_,hd,h.parts,?_,hr,fun x hx j hj=>?_⟩
 · rw [hS];exact h.head
 · rw [hS];exact h.docs
 · rw [hS];exact h.starts
 · unfold docsP at hx
   obtain ⟨p,hp,rfl⟩:=List.mem_map.1 hx
   obtain ⟨q,hq⟩:=List.getElem?_of_mem hp
   obtain ⟨_,_,_,_,_,_,_,hb⟩:=ho q p hq
   exact (hb j hj).elim fun _ h=>h.2.2.2
end
theorem tnew_any (P:Option Addr) (c:Nat) (L:List Part) (w:World) (hl:L.length≤c) (hcm:c≤maxLen) (ho:Secs w w.heap.size P L):
    Calls Tryz.prog 27 #[.slice P L.length c] w fun e w'=>
     (RightT (docsP L)→∃(g y cx cy:Nat) (X:Option Addr) (T:List Part),e=.returned (.tuple #[.pointer (some ⟨g,0,none⟩),.int .i64 0])∧Txt w.heap.size w' g X cx y cy T (docsP L))∧(¬RightT (docsP L)→e=.returned (.tuple #[.pointer none,.int .i64 80]))∧Below w.heap.size w w':=by
 have HF:=Lib.hid (tfit_any P c L w.heap.size w (by omega) ho)
 have HO:=Lib.hid ho
 obtain ⟨k,hk⟩:∃k,L.length=k:=⟨_,rfl⟩
 rw [hk] at HF hl ⊢
 have HK:=Lib.hid hk
 have hkc:k≤9223372036854775807:=by unfold maxLen at hcm;omega
 have HRt:Hid (RightT (docsP L)↔(k≤256∧bytesT (docsP L)≤65536)):=Lib.hid (by unfold RightT;rw [docsP_length,hk])
 clear ho hk hcm
 by_cases hr:k≤256∧bytesT (docsP L)≤65536
 · rw [decide_eq_true hr] at HF
   obtain ⟨i0,hi0,hz0,hs0,hb0⟩:=info_parts info_sl
   obtain ⟨i1,hi1,hz1,hs1,hb1⟩:=info_parts info_i64
   obtain ⟨W0,hW0⟩:∃W,(w.alloc (.cells #[.int .i64 0] 3)).alloc (.cells #[.slice none 0 0,.slice (some ⟨w.heap.size,0,none⟩) 1 1] 88)=W:=⟨_,rfl⟩
   have hB0:Below w.heap.size w W0:=by rw [←hW0];exact ((Below.refl _ _).alloc (Nat.le_refl _) _).alloc (by rw [size_alloc];omega) _
   have l1:=lies_new (w.alloc (.cells #[.int .i64 0] 3)) 88 [.slice none 0 0,.slice (some ⟨w.heap.size,0,none⟩) 1 1]
   have hrow0:(w.alloc (.cells #[.int .i64 0] 3)).ownsRow w.heap.size 3 1 (.slice (some ⟨w.heap.size,0,none⟩) 1 1) 1 (icells (offI (docsP L)) 1):=World.ownsRow_lit w #[.int .i64 0] 1 (Nat.le_refl _) (by unfold maxLen;omega) rfl
   have hN0:NIn w W0 L (w.heap.size+1) 0 0 (.slice none 0 0) (.slice (some ⟨w.heap.size,0,none⟩) 1 1) []:=by
    rw [←hW0]
    refine ⟨by rw [size_alloc] at l1;exact l1,by omega,World.ownsRow_nil _ _ _ _,rfl,fun q p p0 hq=>by simp at hq,fun q p hq=>by simp at hq,hrow0.alloc _,by rw [hW0];exact hB0⟩
   have HN0:=Lib.hid hN0
   have HW0:=Lib.hid hW0
   obtain ⟨g,hg⟩:∃g,w.heap.size+1=g:=⟨_,rfl⟩
   rw [hg] at HN0
   have HG:=Lib.hid hg
   clear hN0 hW0 hB0 l1 hrow0 hg
   go_enter Tryz.func27,Tryz.ntmps27
   go_wp2_with (go_at_call 44;(with_reducible refine HF.out.mono ?_);rintro e w' ⟨rfl,rfl⟩)
   rw [HW0.out,HG.out]
   clear HW0
   go_loopw [15] (fun v wr=>∃(i:Nat) (dv sv:Value) (T:List Part),i≤k∧v=.int .i64 (i:Int)∧Hid (NIn w wr L g i i dv sv T)) (fun v _=>k - (intOf v).toNat)
   case atStart=>exact ⟨0,_,_,_,Nat.zero_le _,rfl,HN0⟩
   case round=>
    clear HN0
    obtain ⟨i,dv,sv,T,hi,rfl,H⟩:=hrel
    have hb:=H.out.below
    have hbs:=hb.size
    by_cases hlt:i < k
    · have hlti:(i:Int) < (k:Int):=by omega
      obtain ⟨p,hp⟩:∃p,L[i]?=some p:=⟨_,List.getElem?_eq_getElem (by rw [HK.out];exact hlt)⟩
      obtain ⟨ad,rfl,_,hc,hnc,hcm,hpA,hpb⟩:=(HO.out.below hb) i p hp
      have hpn:p.n≤65536:=by
       have h1:=bytesT_mem (List.mem_of_getElem? (docsP_at hp))
       have h1:p.n≤bytesT (docsP L):=h1
       omega
      have HC:Hid (∀W,Below wr.heap.size wr W→Hid (Calls Tryz.prog 45 #[.slice p.A p.n p.c] W fun e w'=>∃q:Part,e=.returned (.slice q.A q.n q.c)∧q.sec=p.sec∧OwnPart w' w.heap.size q∧Below wr.heap.size wr w')):=Lib.hid fun W hW=>Lib.hid ((tclone_any p W (by omega) hpA ((hpb.below (hW.mono hbs)).mono_ (by have:=hW.size;omega))).mono fun e w' ⟨q,h1,h2,_,h4,h5⟩=>⟨q,h1,h2,h4.lower (Nat.le_trans hbs hW.size),hW.trans (h5.mono hW.size)⟩)
      have HP:=Lib.hid hp
      have hpm:p.c≤9223372036854775807:=by unfold maxLen at hcm;omega
      have hc0:wr.cell? ⟨g,0,none⟩=some dv:=H.out.head.cell 0
      have hi256:i+1≤257:=by omega
      have lg:=H.out.head.lt
      have hbd:=below_drew' (Below.refl wr.heap.size wr)
      clear hp hpA hpb hcm
      obtain ⟨A,z,cc,V⟩:=p
      have HC:Hid (∀W,Below wr.heap.size wr W→Hid (Calls Tryz.prog 45 #[.slice A z cc] W fun e w'=>∃q:Part,e=.returned (.slice q.A q.n q.c)∧q.sec=(⟨z,V⟩:Sec)∧OwnPart w' w.heap.size q∧Below wr.heap.size wr w')):=HC
      go_upto_region 7 with (fail)
      go_cut [] (fun wx=>∃(dv':Value) (x:Part),NIn w wx L g (i+1) i dv' sv (T++[x]))
      case first=>
       go_region_law
        ((first
          | (go_simp;go_at_call 45;(with_reducible refine (HC.out _ hbd).out.mono ?_);rintro e w1 ⟨q,rfl,hq,hqo,hb1⟩;have H1:=Lib.hid (H.out.keep hb1);have hc1:w1.cell? ⟨g,0,none⟩=some dv:=H1.out.head.cell 0;have lg1:=H1.out.head.lt;have hs1:=H1.out.below.size)
          | (refine step_append_lies _ (by rfl) (.tmp 24) (.tmp 27) _ (by rfl) w.heap.size 23 i0 _ 1 24 Tryz.underlying22 hi0 hz0 hs0 hb0 rfl (by omega) dv i (pcells T) (by rfl) (H1.out.docs.alloc _)
              ⟨w1.heap.size,0,none⟩ 1 1 [.slice q.A q.n q.c] (by rfl) (by rfl) (World.news_of_block (cs:=#[.slice q.A q.n q.c]) (t:=23) (fr:=(0,0)) (heap_alloc_new w1 _)) (by simp [Value.oneCell'])
              (by omega) (by unfold maxLen;omega) (by omega) (by simp;omega) (w1.heap.size+1) (by simp) ?_;intro gg cap w2 hown2 hgrow hat hlt2;have hfz:w2.frozen? ⟨g,0,none⟩=false:=(World.frozen?_of_block (a:=⟨g,0,none⟩) (hgrow.block g (by simp;omega) (fun e=>H1.out.ne1 e.symm))).trans ((H1.out.head.alloc _).free 0);have hcx:w2.cell? ⟨g,0,none⟩=some dv:=(World.cell?_of_block (a:=⟨g,0,none⟩) (hgrow.block g (by simp;omega) (fun e=>H1.out.ne1 e.symm))).trans ((H1.out.head.alloc _).cell 0))))
       all_goals
        go_wp2_with fail
        go_meet
        exact ⟨_,q,H1.out.snoc _ HP.out hq hqo hown2 hgrow⟩
      case rest=>
       obtain ⟨dv',x,hN⟩:=hcut
       have hT1:(docsP L)[i]?=some ⟨z,V⟩:=docsP_at HP.out
       have hof:=offT_succ hT1
       have hle:offT (docsP L) i+(z+1)≤65792:=by
        have h1:=offT_in hT1
        have h2:=lenT_is (docsP L)
        rw [docsP_length,HK.out] at h2
        have h1:offT (docsP L) i+(z+1)≤lenT (docsP L):=h1
        omega
       have hof:offT (docsP L) (i+1)=offT (docsP L) i+(z+1):=hof
       obtain ⟨y,cy,rfl,_,hyl⟩:=hN.starts.form (by omega)
       have hcy:=owns_room hN.starts
       have hci:wc.cell? ⟨y,i,none⟩=some (.int .i64 ((offT (docsP L) i:Nat):Int)):=by
        rw [hN.starts.cellAt i (by omega)]
        exact icells_at (offI (docsP L)) (i+1) i (by omega)
       obtain ⟨oi,ho⟩:∃o,offT (docsP L) i=o:=⟨_,rfl⟩
       rw [ho] at hci hof hle
       have hx:((oi+(z+1):Nat):Int)=offI (docsP L) (i+1):=by unfold offI;rw [hof]
       have hw1:IntKind.i64.wrap ((oi:Int)+(z:Int))=((oi+z:Nat):Int):=by rw [IntWalk.i64_in _ (by omega)];omega
       have hw2:IntKind.i64.wrap (((oi+z:Nat):Int)+1)=((oi+(z+1):Nat):Int):=by rw [IntWalk.i64_in _ (by omega)];omega
       have hw3:IntKind.i64.wrap ((oi:Int)+(z:Int)+1)=((oi+(z+1):Nat):Int):=by rw [IntWalk.i64_in _ (by omega)];omega
       have hii:(i:Int) < (i:Int)+1:=by omega
       have hc1:wc.cell? ⟨g,1,none⟩=some (.slice (some ⟨y,0,none⟩) (i+1) cy):=hN.head.cell 1
       have hcm:cy≤9223372036854775807:=by have:=hcy.2;unfold maxLen at this;omega
       have hcl:=hcy.1
       have hsz:=hN.below.size
       have lg2:=hN.head.lt
       have HN:=Lib.hid hN
       have HX:=Lib.hid hx
       have hne:=hN.ne2
       have hgn:wc.grownBy ((wc.alloc (.cells #[.int .i64 ((oi+(z+1):Nat):Int)] 3)).drew) none:=grownBy_drew (World.grownBy_alloc wc _ _)
       have HGn:=Lib.hid hgn
       clear hN hx ho hof hT1 hgn hcy HC H hbd hc0 hb hbs lg
       go_upto_region 8 with (fail)
       go_region_law
        ((refine step_append_lies _ (by rfl) (.tmp 35) (.tmp 47) _ (by rfl) w.heap.size 3 i1 _ 1 8 Tryz.underlying34 hi1 hz1 hs1 hb1 rfl (by omega) (.slice (some ⟨y,0,none⟩) (i+1) cy) (i+1) (icells (offI (docsP L)) (i+1)) (by rfl) ((HN.out.starts.alloc _).drew)
              ⟨wc.heap.size,0,none⟩ 1 1 [.int .i64 ((oi+(z+1):Nat):Int)] (by rfl) (by rfl) (World.news_of_block (cs:=#[.int .i64 ((oi+(z+1):Nat):Int)]) (t:=3) (fr:=(0,0)) (heap_alloc_new wc _)) (by simp [Value.oneCell'])
              (by omega) (by unfold maxLen;omega) (by omega) (by simp;omega) (wc.heap.size+1) (by simp) ?_;intro gg cap w2 hown2 hgrow hat hlt2;have hfz:w2.frozen? ⟨g,1,none⟩=false:=(World.frozen?_of_block (a:=⟨g,1,none⟩) (hgrow.block g (by simp;omega) (fun e=>hne e.symm))).trans (((HN.out.head.alloc _).drew).free 1);have hcx:w2.cell? ⟨g,1,none⟩=some (.slice (some ⟨y,0,none⟩) (i+1) cy):=(World.cell?_of_block (a:=⟨g,1,none⟩) (hgrow.block g (by simp;omega) (fun e=>hne e.symm))).trans (((HN.out.head.alloc _).drew).cell 1)))
       all_goals
        go_wp2_with fail
        go_roundw
        case rel=>exact ⟨i+1,_,_,_,by omega,by go_num,Lib.hid (HN.out.next HX.out HGn.out hown2 hgrow)⟩
        case measure=>simp [intOf];omega
    · obtain rfl:i=k:=by omega
      obtain ⟨y,cx,cy,X,hX⟩:=H.out.txt HK.out (HRt.out.2 hr) HO.out
      go_wp2_with fail
      go_ret2
      exact ⟨fun _=>⟨g,y,cx,cy,X,T,rfl,hX⟩,fun h=>absurd (HRt.out.2 hr) h,hb⟩
 · rw [decide_eq_false hr] at HF
   go_enter Tryz.func27,Tryz.ntmps27
   go_wp2_with (go_at_call 44;(with_reducible refine HF.out.mono ?_);rintro e w' ⟨rfl,rfl⟩)
   go_ret2
   exact ⟨fun h=>absurd (HRt.out.1 h) hr,fun _=>rfl,Below.refl _ _⟩
end Go.Proofs.YtcidobpbepeakaaGreat

namespace Go.Proofs.YtcidobpbepeakaaGreat
open Go.RowKit
def TxtAt (B:Nat) (w:World) (v:Value) (S:List Sec):Prop:=
 ∃(g:Nat) (X:Option Addr) (cx y cy:Nat) (T:List Part),v=.pointer (some ⟨g,0,none⟩)∧Txt B w g X cx y cy T S
end Go.Proofs.YtcidobpbepeakaaGreat
