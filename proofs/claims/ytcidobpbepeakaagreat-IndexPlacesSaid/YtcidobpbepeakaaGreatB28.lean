/- Texts of ours, joined: SaTurn DocDev BwtAny. -/
import Derived.Test.YtcidobpbepeakaaGreatB04
import Derived.Test.YtcidobpbepeakaaGreatB19
import Derived.Test.YtcidobpbepeakaaGreatB01
import Derived.Test.YtcidobpbepeakaaGreatB03
import Derived.Shelf.Bits.Mul64
import Derived.Laws.CopyOwn
import Derived.Test.YtcidobpbepeakaaGreatB02
import Derived.Deep.QuietTactic
import Derived.BigQuiet
import Derived.Test.YtcidobpbepeakaaGreatB17
import Derived.Test.YtcidobpbepeakaaGreatB27
import Derived.BigRegion
import Derived.Shelf.Abstract
import Derived.Deep.DeepCutAuto
import Derived.Deep.CutRange
set_option maxRecDepth 1000000
set_option maxHeartbeats 6400000
namespace Go.Proofs.YtcidobpbepeakaaGreat
open Go.RowKit
open Go.Shelf
theorem off_drew (p:Nat→Prop) (w:World):Off p w w.drew:=⟨rfl,rfl,rfl,Nat.le_refl _,fun _ _ _=>rfl⟩
def mulLays_ren:Go.Shelf.Ren:=⟨fun | 212=>172 | 263=>191 | 264=>192 | n=>n,fun | 46=>58 | 51=>206 | 146=>228 | 53=>136 | 148=>230 | n=>n,fun | n=>n⟩
theorem mulLays:Go.Proofs.Lays.n212 Tryz.prog mulLays_ren:={
 mixed:=by kernel_rfl
 f212:=Tryz.func172.trans (congrArg some (by kernel_rfl))
 f263:=Tryz.func191.trans (congrArg some (by kernel_rfl))
 f264:=Tryz.func192.trans (congrArg some (by kernel_rfl))
 t46:=Tryz.underlying58
 a46:=Tryz.isAgg58
 z46:=Tryz.sizeOf58
 v46:=Tryz.zeroValue58
 t51:=Tryz.underlying206
 a51:=Tryz.isAgg206
 z51:=Tryz.sizeOf206
 v51:=Tryz.zeroValue206
 t53:=Tryz.underlying136
 a53:=Tryz.isAgg136
 z53:=Tryz.sizeOf136
 v53:=Tryz.zeroValue136
 t146:=Tryz.underlying228
 a146:=Tryz.isAgg228
 z146:=Tryz.sizeOf228
 v146:=Tryz.zeroValue228
 t148:=Tryz.underlying230
 a148:=Tryz.isAgg230
 z148:=Tryz.sizeOf230
 v148:=Tryz.zeroValue230 }
theorem repeat_any (xb n cx:Nat) (x:Int) (w:World) (hn:n≤4194304) (hx:Lies w xb 3 [.int .i64 x]):
    Calls Tryz.prog 117 #[.slice (some ⟨xb,0,none⟩) 1 cx,.int .i64 (n:Int)] w fun e w'=>e=.returned (.slice (some ⟨w.heap.size,0,none⟩) n n)∧Lies w' w.heap.size 3 (icells (fun _=>x) n)∧Off (fun q=>q≠w.heap.size) w w':=by
 have hM:=Any.bits_Mul mulLays 1 n (by decide) (by omega) w
 have e1:1*n / 18446744073709551616=0:=by rw [Nat.one_mul];exact Nat.div_eq_of_lt (by omega)
 have e2:1*n%18446744073709551616=n:=by rw [Nat.one_mul];exact Nat.mod_eq_of_lt (by omega)
 rw [e1,e2] at hM
 have hM:Calls Tryz.prog 172 #[.int .u64 1,.int .u64 (n:Int)] w fun e w'=>e=.returned (.tuple #[.int .u64 0,.int .u64 (n:Int)])∧w'=w:=hM
 have hMk:=make_ints0 w n hn
 obtain ⟨w1,hw1⟩:∃w1,w.alloc (.cells (icells (fun _=>0) n).toArray 3)=w1:=⟨_,rfl⟩
 have l0:Lies w1 w.heap.size 3 (icells (fun _=>0) n):=by rw [←hw1];exact lies_new w 3 _
 have hO1:Off (fun q=>q≠w.heap.size) w w1:=by rw [←hw1];exact Off.grown (World.grownBy_alloc w _ none) (fun k e=>by cases e)
 have hxl:=hx.lt
 have lx:Lies w1 xb 3 [.int .i64 x]:=by rw [←hw1];exact hx.alloc _
 obtain ⟨g,hg⟩:∃g,w.heap.size=g:=⟨_,rfl⟩
 rw [hw1,hg] at hMk
 rw [hg] at l0 hO1 hxl ⊢
 obtain ⟨w2,hC,l2,hO2⟩:=int_copy (w:=w1) (g:=g) (n:=n) (o:=0) (dm:=n) (dc:=n) (m:=1) (c:=cx) (k:=Nat.min 1 n) (V:=fun _=>x) (ad:=⟨xb,0,none⟩) l0 rfl (by rw [Nat.zero_add];exact Nat.min_le_right _ _) (fun j hj=>by
  have hj:j < 1:=Nat.lt_of_lt_of_le hj (Nat.min_le_left _ _)
  obtain rfl:j=0:=by omega
  exact lx.cell 0)
 obtain ⟨k,hk⟩:∃k,Nat.min 1 n=k:=⟨_,rfl⟩
 rw [hk] at hC l2
 have hk1:k≤1∧k≤n∧(0 < n→k=1):=by
  have h1:=Nat.min_le_left 1 n
  have h2:=Nat.min_le_right 1 n
  have h3:0 < n→Nat.min 1 n=1:=fun h=>Nat.min_eq_left h
  rw [hk] at h3
  have h1:Nat.min 1 n≤1:=h1
  have h2:Nat.min 1 n≤n:=h2
  omega
 have HO2:=Lib.hid (hO1.trans hO2)
 have HL2:Hid (∃U,Lies w2 g 3 (icells U n)∧∀j,j < k→U j=x):=Lib.hid ⟨_,l2,fun j hj=>by unfold overI;rw [if_pos (by omega)]⟩
 have c1:IntKind.u64.wrap (1:Int)=1:=by decide
 have c2:IntKind.u64.wrap (n:Int)=(n:Int):=IntWalk.u64_in _ (by omega)
 have c3:IntKind.i64.wrap (n:Int)=(n:Int):=IntWalk.i64_in _ (by omega)
 have d1:¬(9223372036854775807:Int) < (n:Int):=by omega
 clear hx l0 hO1 lx l2 hO2 hw1 e1 e2 hk
 go_enter Tryz.func117,Tryz.ntmps117
 go_wp2_with (go_at_call 172;(with_reducible refine hM.mono ?_);rintro e w' ⟨rfl,rfl⟩)
 go_loopw [8] (fun v wr=>∃k:Nat,k≤n∧(0 < n→0 < k)∧v=.int .i64 (k:Int)∧Hid (∃U,Lies wr g 3 (icells U n)∧∀j,j < k→U j=x)∧Hid (Off (fun q=>q≠g) w' wr)) (fun v _=>n - (intOf v).toNat)
 case atStart=>exact ⟨k,hk1.2.1,fun h=>by have:=hk1.2.2 h;omega,rfl,HL2,HO2⟩
 case round=>
  obtain ⟨k,hk,h0,rfl,hL,hO⟩:=hrel
  by_cases hlt:k < n
  · have hltk:(k:Int) < (n:Int):=by omega
    have hk0:=h0 (by omega)
    have hne:n≠k:=by omega
    have hle:(k:Int)≤(n:Int):=by omega
    obtain ⟨U,hU,hx⟩:=hL.out
    obtain ⟨q,hq⟩:∃q,Nat.min k (n - k)=q:=⟨_,rfl⟩
    have hq1:q≤k∧q≤n - k∧0 < q:=by
     have h1:Nat.min k (n - k)≤k:=Nat.min_le_left _ _
     have h2:Nat.min k (n - k)≤n - k:=Nat.min_le_right _ _
     have h3:0 < Nat.min k (n - k):=Nat.lt_min.2 ⟨hk0,by omega⟩
     omega
    obtain ⟨w3,hC3,l3,hO3⟩:=int_copy (w:=wr.drew) (g:=g) (n:=n) (o:=k) (dm:=n - k) (dc:=n - k) (m:=k) (c:=n) (k:=q) (V:=U) (ad:=⟨g,0,none⟩) hU.drew hq.symm (by omega) (fun j hj=>by
     rw [Addr.add_mid,Nat.zero_add,hU.drew.cell]
     exact icells_at U n j (by omega))
    have HL3:Hid (∃U',Lies w3 g 3 (icells U' n)∧∀j,j < k+q→U' j=x):=Lib.hid ⟨_,l3,fun j hj=>by
     unfold overI
     split
     · exact hx _ (by omega)
     · exact hx _ (by omega)⟩
    have HO3:=Lib.hid ((hO.out.trans (off_drew _ _)).trans hO3)
    have hw:IntKind.i64.wrap ((k:Int)+(q:Int))=((k+q:Nat):Int):=by rw [IntWalk.i64_in _ (by omega)];omega
    clear hU hx hL hO l3 hO3 hq HL2 HO2
    go_wp2_with fail
    go_region
    go_wp2_with fail
    go_roundw
    case rel=>exact ⟨k+q,by omega,fun _=>by omega,rfl,HL3,HO3⟩
    case measure=>simp [intOf];omega
  · obtain rfl:k=n:=by omega
    obtain ⟨U,hU,hx⟩:=hL.out
    go_wp2_with fail
    go_ret
    refine ⟨rfl,?_,hO.out⟩
    rw [icells_congr (U:=fun _=>x) (U':=U) (fun j hj=>(hx j hj).symm)]
    exact hU
end Go.Proofs.YtcidobpbepeakaaGreat
namespace Go.Proofs.YtcidobpbepeakaaGreat
open Go.RowKit
structure Turned2 (V:Nat→Int) (n i:Nat) (U:Nat→Int):Prop where
 right:∀j,j < i→0≤V j∧V j < (n:Int)
 one:∀j k,j < k→k < i→V j≠V k
 at_:∀j,j < i→U (V j).toNat=(j:Int)
 rest:∀q,q < n→U q= -1∨∃j,j < i∧V j=(q:Int)
theorem Turned2.step {V:Nat→Int} {n i:Nat} {U:Nat→Int} (h:Turned2 V n i U) {p:Nat} (hp:p < n) (hV:V i=(p:Int)) (hU:U p= -1):Turned2 V n (i+1) (putI U p (i:Int)):=by
 have hne:∀j,j < i→V j≠V i:=fun j hj e=>by
  have:=h.at_ j hj
  rw [e,hV,Int.toNat_natCast,hU] at this
  omega
 refine ⟨fun j hj=>?_,fun j k hjk hk=>?_,fun j hj=>?_,fun q hq=>?_⟩
 · by_cases e:j=i
   · rw [e,hV];omega
   · exact h.right j (by omega)
 · by_cases e:k=i
   · rw [e];exact hne j (by omega)
   · exact h.one j k hjk (by omega)
 · by_cases e:j=i
   · rw [e,hV,Int.toNat_natCast,putI_at]
   · have h1:=h.right j (by omega)
     have h2:=hne j (by omega)
     rw [putI_off _ (by rw [hV] at h2;omega)]
     exact h.at_ j (by omega)
 · by_cases e:q=p
   · exact .inr ⟨i,Nat.lt_succ_self i,by rw [hV,e]⟩
   · rw [putI_off _ e]
     rcases h.rest q hq with g | ⟨j,g1,g2⟩
     · exact .inl g
     · exact .inr ⟨j,by omega,g2⟩
theorem turn_any (A:Option Addr) (n c:Nat) (V:Nat→Int) (w:World) (hn:n≤4194304) (ho:Its w w.heap.size A n V):Calls Tryz.prog 92 #[.slice A n c] w (TurnPost w n V):=by
 have HO:=Lib.hid ho
 unfold TurnPost
 obtain ⟨B,hB⟩:∃B,w.heap.size=B:=⟨_,rfl⟩
 rw [hB] at HO ⊢
 obtain ⟨w1,hw1⟩:∃w1,w.alloc (.cells #[.int .i64 (-1)] 3)=w1:=⟨_,rfl⟩
 have z1:w1.heap.size=B+1:=by rw [←hw1,size_alloc,hB]
 have k1:Below B w w1:=by rw [←hw1,←hB];exact (Below.refl _ _).alloc (Nat.le_refl _) _
 have l1:Lies w1 B 3 [.int .i64 (-1)]:=by rw [←hw1,←hB];exact lies_new w _ _
 have HRep:=Lib.hid (repeat_any B n 1 (-1) w1 hn l1)
 rw [z1] at HRep
 clear ho l1
 go_enter Tryz.func92,Tryz.ntmps92
 go_wp2_with fail
 refine HRep.out.mono ?_
 rintro e w2 ⟨rfl,l2,o2⟩
 have k2:Below B w w2:=k1.trans (o2.below (by omega) (fun q hq=>by omega))
 clear HRep o2
 go_wp2_with fail
 go_loopw [13] (fun s wr=>∃i:Nat,i≤n∧s=.int .i64 (i:Int)∧Hid (∃U,Lies wr (B+1) 3 (icells U n)∧Turned2 V n i U)∧Below B w wr) (fun s _=>n - (intOf s).toNat)
 case atStart=>exact ⟨0,Nat.zero_le _,rfl,Lib.hid ⟨_,l2,⟨fun j hj=>absurd hj (Nat.not_lt_zero j),fun j k _ hk=>absurd hk (Nat.not_lt_zero k),fun j hj=>absurd hj (Nat.not_lt_zero j),fun _ _=>.inl rfl⟩⟩,k2⟩
 case round=>
  clear l2 k2
  obtain ⟨i,hi,rfl,hU,hb⟩:=hrel
  by_cases hlt:i < n
  · have hlti:(i:Int) < (n:Int):=by omega
    obtain ⟨U,hL,hT⟩:=hU.out
    obtain ⟨ad,rfl,_,hc,_⟩:=HO.out.below hb i hlt
    obtain ⟨v,hv⟩:∃v,V i=v:=⟨_,rfl⟩
    rw [hv] at hc
    by_cases hin:0≤v∧v < (n:Int)
    · obtain ⟨p,rfl⟩:∃p:Nat,v=(p:Int):=⟨v.toNat,by omega⟩
      have hpn:p < n:=by omega
      have hpn1:(p:Int) < (n:Int):=by omega
      have hpn2:¬(n:Int)≤(p:Int):=by omega
      have hcell:wr.cell? ⟨B+1,p,none⟩=some (.int .i64 (U p)):=by
       rw [hL.cell]
       exact icells_at _ _ _ hpn
      have hfree:=hL.free p
      by_cases hU1:U p= -1
      · have HU2:Hid (∃U',Lies (wr.setCell ⟨B+1,p,none⟩ (.int .i64 (i:Int))) (B+1) 3 (icells U' n)∧Turned2 V n (i+1) U'):=Lib.hid ⟨putI U p (i:Int),by
         have:=hL.put p (.int .i64 (i:Int))
         rw [icells_put] at this
         exact this,hT.step hpn hv hU1⟩
        have HB2:Below B w (wr.setCell ⟨B+1,p,none⟩ (.int .i64 (i:Int))):=hb.setCell (p:=⟨B+1,p,none⟩) (by show B≤B+1;omega) _
        rw [hU1] at hcell
        clear hU hL hT hv hU1
        go_wp2_with fail
        go_roundw
        case rel=>exact ⟨i+1,by omega,by go_num,HU2,HB2⟩
        case measure=>simp [intOf];omega
      · have HN:Hid (¬IsPerm V n):=Lib.hid fun hP=>by
         rcases hT.rest p hpn with g | ⟨j,g1,g2⟩
         · exact hU1 g
         · exact hP.2 j i g1 hlt (by rw [g2,hv])
        have hb1:(U p != -1)=true:=by rw [bne_iff_ne];exact hU1
        obtain ⟨x,hx⟩:∃x,U p=x:=⟨_,rfl⟩
        rw [hx] at hcell hb1 hU1
        clear hU hL hT hv hx
        go_wp2_with fail
        go_ret2
        exact ⟨fun h=>absurd h HN.out,fun _=>⟨none,0,rfl⟩,hb⟩
    · have HN:Hid (¬IsPerm V n):=Lib.hid fun hP=>hin (by rw [←hv];exact hP.1 i hlt)
      clear hU hL hT hv
      by_cases h0:v < 0
      · have d0:decide (v < 0)=true:=decide_eq_true h0
        go_wp2_with fail
        go_ret2
        exact ⟨fun h=>absurd h HN.out,fun _=>⟨none,0,rfl⟩,hb⟩
      · have d0:decide (v < 0)=false:=decide_eq_false h0
        have d1:decide ((n:Int)≤v)=true:=decide_eq_true (by omega)
        have d2:(n:Int)≤v:=by omega
        have d3:0≤v:=by omega
        go_wp2_with fail
        go_ret2
        exact ⟨fun h=>absurd h HN.out,fun _=>⟨none,0,rfl⟩,hb⟩
  · have hin:i=n:=by omega
    have hge:¬(i:Int) < (n:Int):=by omega
    rw [hin] at hU
    obtain ⟨U,hL,hT⟩:=hU.out
    have HP:Hid (IsPerm V n):=Lib.hid ⟨hT.right,hT.one⟩
    have HF:Hid (Turns V U n∧ItsR wr (some ⟨B+1,0,none⟩) n n U):=Lib.hid ⟨hT.at_,(fun e=>by cases e),Nat.le_refl _,by unfold maxLen;omega,fun k hk=>⟨_,rfl,hL.lt,by
     rw [Addr.add_mid,Nat.zero_add,hL.cell]
     exact icells_at _ _ _ hk,by
     rcases hT.rest k hk with g | ⟨j,g1,g2⟩
     · rw [g];omega
     · have:=hT.at_ j g1
       rw [g2,Int.toNat_natCast] at this
       rw [this]
       omega⟩⟩
    clear hin hU hL hT
    go_wp2_with fail
    go_ret2
    exact ⟨fun _=>⟨_,n,rfl,U,HF.out.1,HF.out.2⟩,fun h=>absurd HP.out h,hb⟩
end Go.Proofs.YtcidobpbepeakaaGreat

namespace Go.Proofs.YtcidobpbepeakaaGreat
open Go.RowKit
theorem hasEach_is (A:Option Addr) (n c m:Nat) (V:Nat→Int) (w:World) (hn:n≤4194304) (ho:Its w w.heap.size A n V) (b:Bool) (hb:b=true↔n=m∧IsPerm V n):
    Calls Tryz.prog 84 #[.slice A n c,.int .i64 (m:Int)] w fun e w'=>e=.returned (.bool b)∧Below w.heap.size w w':=by
 have HT:=Lib.hid (turn_any A n c V w hn ho)
 have HB:=Lib.hid hb
 clear hb ho
 by_cases hnm:n=m
 · subst hnm
   have g1:((n:Int) != (n:Int))=false:=by simp
   go_enter Tryz.func84,Tryz.ntmps84
   go_wp2_with fail
   refine HT.out.mono ?_
   rintro e w' ⟨h1,h2,h3⟩
   by_cases hp:IsPerm V n
   · obtain ⟨A',c',R,rfl,_,_⟩:=h1 hp
     obtain rfl:b=true:=HB.out.2 ⟨by trivial,hp⟩
     clear h1 h2 HB HT
     go_wp2_with fail
     go_ret
     exact ⟨rfl,h3⟩
   · obtain ⟨A',c',rfl⟩:=h2 hp
     obtain rfl:b=false:=by
      rcases b with _ | _
      · rfl
      · exact absurd (HB.out.1 rfl).2 hp
     clear h1 h2 HB HT
     go_wp2_with fail
     go_ret
     exact ⟨rfl,h3⟩
 · have g1:((n:Int) != (m:Int))=true:=by rw [bne_iff_ne];omega
   have g2:¬(n:Int)=(m:Int):=by omega
   obtain rfl:b=false:=by
    rcases b with _ | _
    · rfl
    · exact absurd (HB.out.1 rfl).1 hnm
   clear HB HT
   go_enter Tryz.func84,Tryz.ntmps84
   go_wp2_with fail
   go_ret
   exact ⟨rfl,Below.refl _ _⟩
theorem docArray_any {B:Nat} {w:World} {g:Nat} {X:Option Addr} {cx y cy:Nat} {T:List Part} {S:List Sec} (h:Txt B w g X cx y cy T S) (A:Option Addr) (n c:Nat) (V:Nat→Int) (hn:n≤4194303) (ho:ItsR w A n c V):
    Calls Tryz.prog 53 #[.pointer (some ⟨g,0,none⟩),.slice A n c] w fun e w'=>
     (n=lenT S∧IsPerm V n→∃(A2:Option Addr) (c2:Nat),e=.returned (.tuple #[.slice A2 n c2,.int .i64 0])∧ItsR w' A2 n c2 (docAt S V))∧(¬(n=lenT S∧IsPerm V n)→∃(A2:Option Addr) (c2:Nat),e=.returned (.tuple #[.slice A2 0 c2,.int .i64 2]))∧Below w.heap.size w w':=by
 have HX:=Lib.hid h
 have HO:=Lib.hid ho
 have HL:=Lib.hid (tlen_any h)
 have HS:Hid (∀j, -9223372036854775808≤docAt S V j∧docAt S V j≤9223372036854775807):=Lib.hid fun j=>by
  have h1:=docAt_room (S:=S) (p:=V j)
  have h2:=h.right.1
  unfold docAt
  omega
 clear h ho
 obtain ⟨N,hN⟩:∃N,lenT S=N:=⟨_,rfl⟩
 rw [hN] at HL ⊢
 clear hN
 by_cases hok:n=N∧IsPerm V n
 · have HB:∀q,Hid (Calls Tryz.prog 84 #[.slice A n c,.int .i64 (N:Int)] (w.drewN q) fun e w'=>e=.returned (.bool true)∧Below (w.drewN q).heap.size (w.drewN q) w'):=fun q=>Lib.hid (hasEach_is A n c N V (w.drewN q) (by omega) (HO.out.below (below_drewN' (Below.refl _ _) q)).2.2.2 true ⟨fun _=>hok,fun _=>rfl⟩)
   have HK:=Lib.hid hok
   clear hok
   go_enter Tryz.func53,Tryz.ntmps53
   go_wp2_with fail
   refine HL.out.mono ?_
   rintro e w0 ⟨rfl,q,rfl⟩
   go_wp2_with fail
   refine (HB q).out.mono ?_
   rintro e w1 ⟨rfl,hb1⟩
   have hB1:Below w.heap.size w w1:=(below_drewN' (Below.refl _ _) q).trans hb1
   have hMk:=make_ints0 w1 n (by omega)
   have l2:=lies_new w1 3 (icells (fun _=>0) n)
   have hb2:Below w1.heap.size w1 (w1.alloc (.cells (icells (fun _=>0) n).toArray 3)):=(Below.refl _ _).alloc (Nat.le_refl _) _
   obtain ⟨w2,hw2⟩:∃w2,w1.alloc (.cells (icells (fun _=>0) n).toArray 3)=w2:=⟨_,rfl⟩
   rw [hw2] at hMk l2 hb2
   have hB2:=hB1.trans (hb2.mono hB1.size)
   have hgs:=hB1.size
   obtain ⟨G,hG⟩:∃G,w1.heap.size=G:=⟨_,rfl⟩
   rw [hG] at hMk l2 hgs
   clear hb1 hB1 hb2 hw2 HL HB
   go_wp2_with fail
   go_loopw [21] (fun s wr=>∃i:Nat,i≤n∧s=.int .i64 (i:Int)∧Hid (∃U,Lies wr G 3 (icells U n)∧∀j,j < i→U j=docAt S V j)∧Below w.heap.size w wr) (fun s _=>n - (intOf s).toNat)
   case atStart=>exact ⟨0,Nat.zero_le _,rfl,Lib.hid ⟨_,l2,fun j hj=>absurd hj (Nat.not_lt_zero j)⟩,hB2⟩
   case round=>
    clear l2 hB2 hG hMk
    obtain ⟨i,hi,rfl,hU,hb⟩:=hrel
    by_cases hlt:i < n
    · have hlti:(i:Int) < (n:Int):=by omega
      obtain ⟨ad,rfl,_,hc,hv1,hv2⟩:=HO.out.2.2.2.below hb i hlt
      have HD:=Lib.hid (tdoc_any (HX.out.keep hb) (V i) (HO.out.2.2.2.wf hlt))
      have HE:Hid ((docI S (V i)).1=docAt S V i):=Lib.hid rfl
      obtain ⟨U,hL,hd⟩:=hU.out
      obtain ⟨v,hv⟩:∃v,V i=v:=⟨_,rfl⟩
      rw [hv] at hc hv1 hv2 HD HE
      obtain ⟨o,hoo⟩:∃o,(docI S v).2=o:=⟨_,rfl⟩
      rw [hoo,HE.out] at HD
      clear hU hv hoo HE
      go_wp2_with fail
      refine HD.out.mono ?_
      rintro e w3 ⟨rfl,hb3⟩
      have l3:Lies w3 G 3 (icells U n):=hL.below hb3 hL.lt
      have hcell:w3.cell? ⟨G,i,none⟩=some (.int .i64 (U i)):=by
       rw [l3.cell]
       exact icells_at _ _ _ hlt
      have hfree:=l3.free i
      have hB3:=hb.trans (hb3.mono hb.size)
      obtain ⟨z,hz⟩:∃z,docAt S V i=z:=⟨_,rfl⟩
      have HU2:Hid (∃U',Lies (w3.setCell ⟨G,i,none⟩ (.int .i64 (docAt S V i))) G 3 (icells U' n)∧∀j,j < i+1→U' j=docAt S V j):=Lib.hid ⟨putI U i (docAt S V i),by
       have:=l3.put i (.int .i64 (docAt S V i))
       rw [icells_put] at this
       exact this,fun j hj=>by
        by_cases e:j=i
        · rw [e,putI_at]
        · rw [putI_off _ e];exact hd j (by omega)⟩
      rw [hz] at HU2 ⊢
      have hB4:Below w.heap.size w (w3.setCell ⟨G,i,none⟩ (.int .i64 z)):=hB3.setCell (p:=⟨G,i,none⟩) hgs _
      clear hz hL hd l3 hB3 hb3 HD hb
      go_wp2_with fail
      go_roundw
      case rel=>exact ⟨i+1,by omega,by go_num,HU2,hB4⟩
      case measure=>simp [intOf];omega
    · obtain rfl:i=n:=by omega
      have hge:¬(i:Int) < (i:Int):=by omega
      go_wp2_with fail
      go_ret2
      exact ⟨fun _ _=>⟨_,i,rfl,by
       obtain ⟨U,hL,hd⟩:=hU.out
       exact itsR_lies hL (by omega) hd (fun j _=>HS.out j)⟩,fun hh=>absurd HK.out.2 (hh HK.out.1),hb⟩
 · have HB:∀q,Hid (Calls Tryz.prog 84 #[.slice A n c,.int .i64 (N:Int)] (w.drewN q) fun e w'=>e=.returned (.bool false)∧Below (w.drewN q).heap.size (w.drewN q) w'):=fun q=>Lib.hid (hasEach_is A n c N V (w.drewN q) (by omega) (HO.out.below (below_drewN' (Below.refl _ _) q)).2.2.2 false ⟨fun e=>(by cases e),fun hh=>absurd hh hok⟩)
   have HK:=Lib.hid hok
   clear hok
   go_enter Tryz.func53,Tryz.ntmps53
   go_wp2_with fail
   refine HL.out.mono ?_
   rintro e w0 ⟨rfl,q,rfl⟩
   go_wp2_with fail
   refine (HB q).out.mono ?_
   rintro e w1 ⟨rfl,hb1⟩
   have hB1:Below w.heap.size w w1:=(below_drewN' (Below.refl _ _) q).trans hb1
   clear hb1 HL HB
   go_wp2_with fail
   go_ret2
   exact ⟨fun hh=>absurd hh HK.out,fun _=>⟨none,0,rfl⟩,hB1⟩
end Go.Proofs.YtcidobpbepeakaaGreat

namespace Go.Proofs.YtcidobpbepeakaaGreat
open Go.RowKit
theorem itsR_liesW {w:World} {s n:Nat} {U:Nat→Int} (hn:n≤4194304) (h:Lies w s 3 (icells U n)) (hU:∀i,i < n→ -9223372036854775808≤U i∧U i≤9223372036854775807):ItsR w (some ⟨s,0,none⟩) n n U:=⟨(fun e=>by cases e),Nat.le_refl _,by unfold maxLen;omega,fun k hk=>⟨_,rfl,h.lt,by
 rw [Addr.add_mid,Nat.zero_add,h.cell]
 exact icells_at _ _ _ hk,hU k hk⟩⟩
theorem bwMake_any (A:Option Addr) (n c:Nat) (V:Nat→Int) (A':Option Addr) (n' c':Nat) (S:Nat→Int) (w:World) (hn:n≤4194303) (hn':n'≤4194303) (ho:ItsR w A n c V) (ho':ItsR w A' n' c' S):
    Calls Tryz.prog 127 #[.slice A n c,.slice A' n' c'] w (BMakePost w n n' V S):=by
 unfold BMakePost
 have HO:=Lib.hid ho.2.2.2
 have HTurn:=Lib.hid (turn_any A' n' c' S w (by omega) ho'.2.2.2)
 by_cases hnn:n=n'
 · subst hnn
   have e1:((n:Int) != (n:Int))=false:=by simp
   clear ho ho'
   go_enter Tryz.func127,Tryz.ntmps127
   go_wp2_with fail
   refine HTurn.out.mono ?_
   rintro e w1 ⟨h1,h2,k1⟩
   by_cases hP:IsPerm S n
   · obtain ⟨AR,cR,R,rfl,hT,hR⟩:=h1 hP
     have HP:=Lib.hid hP
     have HT:=Lib.hid hT
     have HR:=Lib.hid hR.2.2.2
     have HK1:=Lib.hid k1
     have HO1:Hid (Its w1 w1.heap.size A n V):=Lib.hid ((HO.out.below k1).mono_ k1.size)
     obtain ⟨s,za⟩:∃s,w1.heap.size=s:=⟨_,rfl⟩
     have hMk:=make_ints0 w1 n (by omega)
     have hsz:=k1.size
     rw [za] at hMk HO1 HR hsz
     obtain ⟨wa,hwa⟩:∃wa,w1.alloc (.cells (icells (fun _=>0) n).toArray 3)=wa:=⟨_,rfl⟩
     have ka:Below s w1 wa:=by rw [←hwa,←za];exact (Below.refl _ _).alloc (Nat.le_refl _) _
     have l1:Lies wa s 3 (icells (fun _=>0) n):=by rw [←hwa,←za];exact lies_new w1 _ _
     rw [hwa] at hMk
     have HKa:Hid (Below w.heap.size w wa):=Lib.hid (k1.trans (ka.mono hsz))
     have HOa:Hid (Its wa s A n V):=Lib.hid (HO1.out.below ka)
     have HRa:Hid (Its wa s AR n R):=Lib.hid (HR.out.below ka)
     have HLa:=Lib.hid l1
     have HSz:=Lib.hid hsz
     clear h1 h2 hP hT hR k1 za hwa ka l1 HO1 HR HK1 HTurn hsz
     go_wp2_with fail
     go_loopw [28] (fun v wr=>∃p:Nat,p≤n∧v=.int .i64 (p:Int)∧Hid (∃U,Lies wr s 3 (icells U n)∧∀i,i < n→aheadN n (S i).toNat < p→U i=V (aheadN n (S i).toNat))∧Hid (Below s wa wr)) (fun v _=>n - (intOf v).toNat)
     case atStart=>exact ⟨0,Nat.zero_le _,rfl,Lib.hid ⟨_,HLa.out,fun i _ h=>absurd h (Nat.not_lt_zero _)⟩,Lib.hid (Below.refl _ _)⟩
     case round=>
      clear HLa hMk
      obtain ⟨p,hp,rfl,hU,hb⟩:=hrel
      by_cases hlt:p < n
      · have hlti:(p:Int) < (n:Int):=by omega
        obtain ⟨ad,rfl,_,hc,_⟩:=HOa.out.below hb.out p hlt
        obtain ⟨q,hq⟩:∃q,(p+1)%n=q:=⟨_,rfl⟩
        have hqn:q < n:=by rw [←hq];exact Nat.mod_lt _ (by omega)
        have hqp:aheadN n q=p:=by
         unfold aheadN
         by_cases e:p+1=n
         · have:q=0:=by rw [←hq,e,Nat.mod_self]
           rw [if_pos this]
           omega
         · have:q=p+1:=by rw [←hq,Nat.mod_eq_of_lt (by omega)]
           rw [if_neg (by omega)]
           omega
        obtain ⟨i,hi,hSi⟩:=HP.out.onto hqn
        have hRq:R q=(i:Int):=by
         have:=HT.out i hi
         rwa [hSi,Int.toNat_natCast] at this
        obtain ⟨adR,rfl,_,hcR,_⟩:=HRa.out.below hb.out q hqn
        rw [hRq] at hcR
        obtain ⟨U,hL,hU⟩:=hU.out
        have hci:wr.cell? ⟨s,i,none⟩=some (.int .i64 (U i)):=by
         rw [hL.cell,icells_at _ _ _ hi]
        have hfi:=hL.free i
        have HU2:Hid (∃U',Lies (wr.setCell ⟨s,i,none⟩ (.int .i64 (V p))) s 3 (icells U' n)∧∀i,i < n→aheadN n (S i).toNat < p+1→U' i=V (aheadN n (S i).toNat)):=Lib.hid ⟨_,by
         have:=hL.put i (.int .i64 (V p))
         rw [icells_put] at this
         exact this,fun j hj hlt2=>by
         by_cases e:j=i
         · rw [if_pos e,e,hSi,Int.toNat_natCast,hqp]
         · rw [if_neg e]
           refine hU j hj (Nat.lt_of_le_of_ne (Nat.le_of_lt_succ hlt2) fun e2=>e ?_)
           have hr:=HP.out.1 j hj
           have:=aheadN_inj (n:=n) (p:=(S j).toNat) (q:=q) (by omega) hqn (by rw [e2,hqp])
           exact HP.out.inj hj hi (by rw [hSi];omega)⟩
        have HB2:Hid (Below s wa (wr.setCell ⟨s,i,none⟩ (.int .i64 (V p)))):=Lib.hid (hb.out.setCell (p:=⟨s,i,none⟩) (Nat.le_refl _) _)
        have bqn:(q:Int) < (n:Int):=by omega
        have bin:(i:Int) < (n:Int):=by omega
        have w2:IntKind.i64.wrap ((p:Int)+1)=((p+1:Nat):Int):=by rw [IntWalk.i64_in _ (by omega)];omega
        have hmod:(((p+1:Nat):Int)).tmod (n:Int)=(q:Int):=by rw [←hq];rfl
        have w3:IntKind.i64.wrap (q:Int)=(q:Int):=IntWalk.i64_in _ (by omega)
        have n0:¬n=0:=by omega
        have n1:¬(n:Int)=0:=by omega
        have n2:((n:Int)==0)=false:=by rw [beq_eq_false_iff_ne];omega
        have HP1:Hid (p+1≤n):=Lib.hid hlt
        generalize V p=vp at hc HU2 HB2
        generalize U i=ui at hci
        generalize hp1:p+1=p1 at w2 hmod HU2 HP1
        have hpp:p < p1:=by omega
        have hpn:p1≤n:=HP1.out
        clear hU hL hb hq hqp hSi hRq hp1
        go_wp2_with fail
        go_roundw
        case rel=>exact ⟨p1,HP1.out,rfl,HU2,HB2⟩
        case measure=>simp [intOf];omega
      · have hin:p=n:=by omega
        have hge:¬(p:Int) < (n:Int):=by omega
        rw [hin] at hU
        have HF:Hid (ItsR wr (some ⟨s,0,none⟩) n n (turnI V n S)):=Lib.hid (by
         obtain ⟨U,h1,h2⟩:=hU.out
         have e:∀i,i < n→U i=turnI V n S i:=fun i hi=>by
          have hr:=HP.out.1 i hi
          rw [h2 i hi (aheadN_lt (by omega)),turnI_at (p:=(S i).toNat) (by omega)]
         refine itsR_liesW (by omega) (by rw [←icells_congr e];exact h1) fun i hi=>?_
         have hr:=HP.out.1 i hi
         rw [turnI_at (p:=(S i).toNat) (by omega)]
         exact HOa.out.small _ (aheadN_lt (by omega)))
        have HKr:Hid (Below w.heap.size w wr):=Lib.hid (HKa.out.trans (hb.out.mono HSz.out))
        clear hU hin hb
        go_wp2_with fail
        go_ret2
        exact ⟨fun _=>⟨_,n,rfl,HF.out⟩,fun h=>absurd HP.out h,HKr.out⟩
   · obtain ⟨AR,cR,rfl⟩:=h2 hP
     have HP:=Lib.hid hP
     clear h1 h2 hP HTurn
     go_wp2_with fail
     go_ret2
     exact ⟨fun h=>absurd h.2 HP.out,fun _=>⟨none,0,rfl⟩,k1⟩
 · have e1:((n':Int) != (n:Int))=true:=by rw [bne_iff_ne];omega
   have e2:¬(n':Int)=(n:Int):=by omega
   clear ho ho' HTurn
   go_enter Tryz.func127,Tryz.ntmps127
   go_wp2_with fail
   go_ret2
   exact ⟨fun h=>absurd h.1 hnn,fun _=>⟨none,0,rfl⟩,Below.refl _ _⟩
theorem bwCounts_any (A:Option Addr) (n c:Nat) (V:Nat→Int) (al:Int) (w:World) (hn:n≤4194303) (hal:al≤4194303∨4194304 < al) (ho:ItsR w A n c V):
    Calls Tryz.prog 129 #[.slice A n c,.int .i64 al] w (BCountsPost w n V al):=by
 unfold BCountsPost
 obtain ⟨r,hr⟩:∃r:Bool,r=true↔RightS V n al:=⟨@decide _ (Classical.propDecidable _),@decide_eq_true_iff _ (Classical.propDecidable _)⟩
 have HFit:=Lib.hid (bwFit_is A n c V al _ w (by omega) ho.2.2.2 r hr)
 have HR:=Lib.hid hr
 rcases r with _ | _
 · clear hr ho
   go_enter Tryz.func129,Tryz.ntmps129
   go_wp2_with fail
   refine HFit.out.mono ?_
   rintro e w1 ⟨rfl,rfl⟩
   go_wp2_with fail
   go_ret2
   exact ⟨fun h=>(by have:=HR.out.2 h;cases this),fun _=>⟨none,0,rfl⟩,Below.refl _ _⟩
 · have hR:=hr.1 rfl
   obtain ⟨m,rfl⟩:∃m:Nat,al=(m:Int):=⟨al.toNat,by have:=hR.1.1;omega⟩
   have hm:m≤4194303:=by have:=hR.1.2.1;omega
   have hbe:=below_any A n c V m w (by omega) hm ho.2.2.2 hR.2
   obtain ⟨m1,hm1⟩:∃m1,m+1=m1:=⟨_,rfl⟩
   rw [hm1] at hbe
   have HBe:=Lib.hid hbe
   have HM:=Lib.hid hm1
   clear hr ho hR hbe hm1
   go_enter Tryz.func129,Tryz.ntmps129
   go_wp2_with fail
   refine HFit.out.mono ?_
   rintro e w1 ⟨rfl,rfl⟩
   go_wp2_with fail
   refine HBe.out.mono ?_
   rintro e w1 ⟨rfl,h1,h2⟩
   have HF:=Lib.hid (And.intro h1 h2)
   clear h1 h2 HBe HFit
   go_wp2_with fail
   go_ret2
   refine ⟨fun _=>⟨some ⟨w.heap.size,0,none⟩,m1,?_,?_⟩,fun h=>absurd (HR.out.1 (by trivial)) h,HF.out.2⟩
   · rw [Int.toNat_natCast,HM.out]
     rfl
   · rw [Int.toNat_natCast,HM.out]
     exact itsR_liesW (by have:=HM.out;omega) HF.out.1 fun i hi=>by
      have:=belowI_le V n (i:Int)
      omega
end Go.Proofs.YtcidobpbepeakaaGreat
