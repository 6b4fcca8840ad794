/- Texts of ours, joined: SaGround SaRank. -/
import Derived.Test.YtcidobpbepeakaaGreatB29
import Derived.Test.YtcidobpbepeakaaGreatB05
import Derived.StillTailTactics
import Derived.Shelf.Bits.Mul64
import Derived.Shelf.Slices.Equal
import Derived.Shelf.Slices.Empties2
import Derived.Shelf.Slices.Clone
import Derived.Shelf.Slices.SearchI
import Derived.Laws.CopyOwn
import Derived.Maps.AppendAt
import Derived.Maps.OwnIn
import Derived.Lib.SortBridge
set_option maxRecDepth 1000000
set_option maxHeartbeats 6400000
namespace Go.Proofs.YtcidobpbepeakaaGreat
open Go.RowKit
structure Lg (w:World) (T:Nat) (A:Option Addr) (n c:Nat) (X:Nat→Nat) (b g e h:Nat) (b2 b5 b6 s y cs cy:Nat) (S N:Nat→Int):Prop where
 row:Rw w T A n c X b g e h
 v2:w.cell? ⟨b2,0,none⟩=some (.pointer (some ⟨g,0,none⟩))
 v5:w.cell? ⟨b5,0,none⟩=some (.slice (some ⟨s,0,none⟩) n cs)
 v6:w.cell? ⟨b6,0,none⟩=some (.slice (some ⟨y,0,none⟩) b cy)
 sa:w.ownsRow T 3 1 (.slice (some ⟨s,0,none⟩) n cs) n (icells S n)
 nx:w.ownsRow T 3 1 (.slice (some ⟨y,0,none⟩) b cy) b (icells N b)
 ge:T≤b2∧T≤b5∧T≤b6∧T≤s∧T≤y
 ne:s≠y∧s≠b2∧s≠b5∧s≠b6∧y≠b2∧y≠b5∧y≠b6
section
variable {w w':World} {T n c b g e h b2 b5 b6 s y cs cy:Nat} {A:Option Addr} {X:Nat→Nat} {S N:Nat→Int}
theorem Lg.sa_cell (l:Lg w T A n c X b g e h b2 b5 b6 s y cs cy S N) {k:Nat} (hk:k < n):w.cell? ⟨s,k,none⟩=some (.int .i64 (S k)):=by
 rw [l.sa.cellAt k (by omega)]
 exact icells_at S n k hk
theorem Lg.nx_cell (l:Lg w T A n c X b g e h b2 b5 b6 s y cs cy S N) {k:Nat} (hk:k < b):w.cell? ⟨y,k,none⟩=some (.int .i64 (N k)):=by
 rw [l.nx.cellAt k (by omega)]
 exact icells_at N b k hk
theorem Lg.put_sa (l:Lg w T A n c X b g e h b2 b5 b6 s y cs cy S N) (k:Nat) (x:Int):Lg (w.setCell ⟨s,k,none⟩ (.int .i64 x)) T A n c X b g e h b2 b5 b6 s y cs cy (putI S k x) N:=by
 obtain ⟨n1,n2,n3,n4,n5,n6,n7⟩:=l.ne
 have hb:Below T w (w.setCell ⟨s,k,none⟩ (.int .i64 x)):=(Below.refl T w).setCell (p:=⟨s,k,none⟩) l.ge.2.2.2.1 _
 have far:∀z,s≠z→(w.setCell ⟨s,k,none⟩ (.int .i64 x)).cell? ⟨z,0,none⟩=w.cell? ⟨z,0,none⟩:=fun z hz=>World.cell?_of_block (Below.heap_setCell w ⟨s,k,none⟩ _ z (fun e=>hz e.symm))
 refine ⟨l.row.below hb (Nat.le_refl _),(far b2 n2).trans l.v2,(far b5 n3).trans l.v5,(far b6 n4).trans l.v6,?_,owns_far l.nx (fun e=>n1 (by injection e with e;exact e.symm)) _,l.ge,l.ne⟩
 have:=owns_put l.sa k (.int .i64 x)
 rw [icells_put] at this
 exact this
theorem Lg.put_nx (l:Lg w T A n c X b g e h b2 b5 b6 s y cs cy S N) (k:Nat) (x:Int):Lg (w.setCell ⟨y,k,none⟩ (.int .i64 x)) T A n c X b g e h b2 b5 b6 s y cs cy S (putI N k x):=by
 obtain ⟨n1,n2,n3,n4,n5,n6,n7⟩:=l.ne
 have hb:Below T w (w.setCell ⟨y,k,none⟩ (.int .i64 x)):=(Below.refl T w).setCell (p:=⟨y,k,none⟩) l.ge.2.2.2.2 _
 have far:∀z,y≠z→(w.setCell ⟨y,k,none⟩ (.int .i64 x)).cell? ⟨z,0,none⟩=w.cell? ⟨z,0,none⟩:=fun z hz=>World.cell?_of_block (Below.heap_setCell w ⟨y,k,none⟩ _ z (fun e=>hz e.symm))
 refine ⟨l.row.below hb (Nat.le_refl _),(far b2 n5).trans l.v2,(far b5 n6).trans l.v5,(far b6 n7).trans l.v6,owns_far l.sa (fun e=>n1 (by injection e)) _,?_,l.ge,l.ne⟩
 have:=owns_put l.nx k (.int .i64 x)
 rw [icells_put] at this
 exact this
theorem Lg.drew (l:Lg w T A n c X b g e h b2 b5 b6 s y cs cy S N):Lg w.drew T A n c X b g e h b2 b5 b6 s y cs cy S N:=
 ⟨l.row.below ((Below.refl T w).drew) (Nat.le_refl _),l.v2,l.v5,l.v6,l.sa,l.nx,l.ge,l.ne⟩
theorem two_off {k x0:Nat} (x x':Value):Off (fun q=>q≠s∧q≠y) w (((w.setCell ⟨y,x0,none⟩ x).drew.setCell ⟨s,k,none⟩ x').drew):=by
 have h1:Off (fun q=>q≠s∧q≠y) w (w.setCell ⟨y,x0,none⟩ x):=Off.setCell (fun hq=>hq.2 rfl) x
 have h2:Off (fun q=>q≠s∧q≠y) (w.setCell ⟨y,x0,none⟩ x).drew ((w.setCell ⟨y,x0,none⟩ x).drew.setCell ⟨s,k,none⟩ x'):=Off.setCell (fun hq=>hq.1 rfl) x'
 exact ((h1.trans (off_drew _ _)).trans h2).trans (off_drew _ _)
theorem two_off' {k x0:Nat} (x x':Value):Off (fun q=>q≠s∧q≠y) w (((w.setCell ⟨s,k,none⟩ x').drew.setCell ⟨y,x0,none⟩ x).drew):=by
 have h1:Off (fun q=>q≠s∧q≠y) w (w.setCell ⟨s,k,none⟩ x'):=Off.setCell (fun hq=>hq.1 rfl) x'
 have h2:Off (fun q=>q≠s∧q≠y) (w.setCell ⟨s,k,none⟩ x').drew ((w.setCell ⟨s,k,none⟩ x').drew.setCell ⟨y,x0,none⟩ x):=Off.setCell (fun hq=>hq.2 rfl) x
 exact ((h1.trans (off_drew _ _)).trans h2).trans (off_drew _ _)
theorem laid1_any (l:Lg w T A n c X b g e h b2 b5 b6 s y cs cy S N) {p k:Nat} (hp:p < n) (hk:k < n) (hN:N (X p)=((k+1:Nat):Int)):
    Calls Tryz.prog 118 #[.int .i64 (p:Int),.pointer (some ⟨b6,0,none⟩),.pointer (some ⟨b2,0,none⟩),.pointer (some ⟨b5,0,none⟩)] w fun e' w'=>e'=.returned (.tuple #[])∧
     Lg w' T A n c X b g e h b2 b5 b6 s y cs cy (putI S k (p:Int)) (putI N (X p) (k:Int))∧Off (fun q=>q≠s∧q≠y) w w':=by
 have hx:=l.row.right p hp
 have hn:=l.row.small.2.1
 have hL1:=Lib.hid ((l.put_nx (X p) (k:Int)).drew)
 have hL2:=Lib.hid ((((l.put_nx (X p) (k:Int)).drew).put_sa k (p:Int)).drew)
 obtain ⟨ad,rfl,_,ct0,_⟩:=l.row.t p hp
 have ct:w.cell? (ad.add p)=some (.int .i64 ((X p:Nat):Int)):=ct0
 clear ct0
 have cn:=l.nx_cell hx
 rw [hN] at cn
 have fn:=owns_free l.nx (X p)
 have hO:∀x x':Value,Off (fun q=>q≠s∧q≠y) w (((w.setCell ⟨y,X p,none⟩ x).drew.setCell ⟨s,k,none⟩ x').drew):=fun x x'=>two_off x x'
 have HO:=Lib.hid hO
 have v2:=l.v2
 have v5:=l.v5
 have v6:=l.v6
 have c0:=l.row.c0
 have L1:=hL1.out
 clear hL1
 obtain ⟨w1,hw1⟩:∃w1,(w.setCell ⟨y,X p,none⟩ (.int .i64 (k:Int))).drew=w1:=⟨_,rfl⟩
 have HW1:=Lib.hid hw1
 rw [hw1] at L1 hL2
 obtain ⟨ad',e',_,ct2,_⟩:=L1.row.t p hp
 obtain rfl:ad=ad':=by injection e'
 have ct1:w1.cell? (ad.add p)=some (.int .i64 ((X p:Nat):Int)):=ct2
 clear ct2
 have cn1:=L1.nx_cell hx
 rw [putI_at] at cn1
 have cs1:=L1.sa_cell hk
 have fs1:=owns_free L1.sa k
 have w2:=L1.v2
 have w5:=L1.v5
 have w6:=L1.v6
 have d0:=L1.row.c0
 have hw:IntKind.i64.wrap (((k+1:Nat):Int) - 1)=(k:Int):=by rw [IntWalk.i64_in _ (by omega)];omega
 have hxb:((X p:Nat):Int) < (b:Int):=by omega
 have hpn:(p:Int) < (n:Int):=by omega
 have hkn:(k:Int) < (n:Int):=by omega
 obtain ⟨k1,hk1⟩:∃k1,k+1=k1:=⟨_,rfl⟩
 rw [hk1] at hw cn
 obtain ⟨sv,hsv⟩:∃sv,S k=sv:=⟨_,rfl⟩
 rw [hsv] at cs1
 clear hw1 l L1 e' hN hk1 hsv hn hO hx
 go_enter Tryz.func118,Tryz.ntmps118
 go_wp2_with fail
 go_still_tail 12,(by kernel_rfl)
 go_wp2_with fail
 rw [HW1.out]
 go_still_tail 13,(by kernel_rfl)
 go_wp2_with fail
 go_end0
 refine ⟨rfl,hL2.out,?_⟩
 rw [←HW1.out]
 exact HO.out _ _
theorem laid2_any (l:Lg w T A n c X b g e h b2 b5 b6 s y cs cy S N) {p k:Nat} (hp:p < n) (hk:k < n) (hN:N (X p)=(k:Int)):
    Calls Tryz.prog 119 #[.int .i64 (p:Int),.pointer (some ⟨b5,0,none⟩),.pointer (some ⟨b6,0,none⟩),.pointer (some ⟨b2,0,none⟩)] w fun e' w'=>e'=.returned (.tuple #[])∧
     Lg w' T A n c X b g e h b2 b5 b6 s y cs cy (putI S k (p:Int)) (putI N (X p) ((k+1:Nat):Int))∧Off (fun q=>q≠s∧q≠y) w w':=by
 have hx:=l.row.right p hp
 have hn:=l.row.small.2.1
 have hL1:=Lib.hid ((l.put_sa k (p:Int)).drew)
 have hL2:=Lib.hid ((((l.put_sa k (p:Int)).drew).put_nx (X p) ((k+1:Nat):Int)).drew)
 obtain ⟨ad,rfl,_,ct0,_⟩:=l.row.t p hp
 have ct:w.cell? (ad.add p)=some (.int .i64 ((X p:Nat):Int)):=ct0
 clear ct0
 have cn:=l.nx_cell hx
 rw [hN] at cn
 have fs:=owns_free l.sa k
 have cs0:=l.sa_cell hk
 have hO:∀x x':Value,Off (fun q=>q≠s∧q≠y) w (((w.setCell ⟨s,k,none⟩ x').drew.setCell ⟨y,X p,none⟩ x).drew):=fun x x'=>two_off' x x'
 have HO:=Lib.hid hO
 have v2:=l.v2
 have v5:=l.v5
 have v6:=l.v6
 have c0:=l.row.c0
 have L1:=hL1.out
 clear hL1
 obtain ⟨w1,hw1⟩:∃w1,(w.setCell ⟨s,k,none⟩ (.int .i64 (p:Int))).drew=w1:=⟨_,rfl⟩
 have HW1:=Lib.hid hw1
 rw [hw1] at L1 hL2
 obtain ⟨ad',e',_,ct2,_⟩:=L1.row.t p hp
 obtain rfl:ad=ad':=by injection e'
 have ct1:w1.cell? (ad.add p)=some (.int .i64 ((X p:Nat):Int)):=ct2
 clear ct2
 have cn1:=L1.nx_cell hx
 rw [hN] at cn1
 have fn1:=owns_free L1.nx (X p)
 have w2:=L1.v2
 have w5:=L1.v5
 have w6:=L1.v6
 have d0:=L1.row.c0
 have hw:IntKind.i64.wrap ((k:Int)+1)=((k+1:Nat):Int):=by rw [IntWalk.i64_in _ (by omega)];omega
 have hxb:((X p:Nat):Int) < (b:Int):=by omega
 have hpn:(p:Int) < (n:Int):=by omega
 have hkn:(k:Int) < (n:Int):=by omega
 obtain ⟨k1,hk1⟩:∃k1,k+1=k1:=⟨_,rfl⟩
 rw [hk1] at hw hL2
 obtain ⟨sv,hsv⟩:∃sv,S k=sv:=⟨_,rfl⟩
 rw [hsv] at cs0
 clear hw1 l L1 e' hN hsv hn hO hx
 go_enter Tryz.func119,Tryz.ntmps119
 go_wp2_with fail
 go_still_tail 13,(by kernel_rfl)
 go_wp2_with fail
 rw [HW1.out]
 go_still_tail 12,(by kernel_rfl)
 go_wp2_with fail
 go_end0
 rw [hk1]
 refine ⟨rfl,hL2.out,?_⟩
 rw [←HW1.out]
 exact HO.out _ _
end
end Go.Proofs.YtcidobpbepeakaaGreat
namespace Go.Proofs.YtcidobpbepeakaaGreat
open Go.RowKit
open Go.Shelf
def cloneLays_ren:Go.Shelf.Ren:=⟨fun | 15=>86 | n=>n,fun | 22=>34 | 3=>3 | 4=>4 | n=>n,fun | n=>n⟩
theorem cloneLays:Go.Proofs.Lays2.n15 Tryz.prog cloneLays_ren:={
 mixed:=by kernel_rfl
 f15:=Tryz.func86.trans (congrArg some (by kernel_rfl))
 t3:=Tryz.underlying3
 a3:=Tryz.isAgg3
 z3:=Tryz.sizeOf3
 v3:=Tryz.zeroValue3
 t4:=Tryz.underlying4
 a4:=Tryz.isAgg4
 z4:=Tryz.sizeOf4
 v4:=Tryz.zeroValue4
 t22:=Tryz.underlying34
 a22:=Tryz.isAgg34
 z22:=Tryz.sizeOf34
 v22:=Tryz.zeroValue34
 i3:=by kernel_rfl }
def searchLays_ren:Go.Shelf.Ren:=⟨fun | 25=>79 | 31=>123 | 32=>124 | 37=>174 | n=>n,fun | 22=>34 | 3=>3 | 4=>4 | 40=>58 | 0=>0 | n=>n,fun | n=>n⟩
theorem searchLays:Go.Proofs.Lays2.n25 Tryz.prog searchLays_ren:={
 mixed:=by kernel_rfl
 f25:=Tryz.func79.trans (congrArg some (by kernel_rfl))
 f31:=Tryz.func123.trans (congrArg some (by kernel_rfl))
 f32:=Tryz.func124.trans (congrArg some (by kernel_rfl))
 f37:=Tryz.func174.trans (congrArg some (by kernel_rfl))
 t0:=Tryz.underlying0
 a0:=Tryz.isAgg0
 z0:=Tryz.sizeOf0
 v0:=Tryz.zeroValue0
 t3:=Tryz.underlying3
 a3:=Tryz.isAgg3
 z3:=Tryz.sizeOf3
 v3:=Tryz.zeroValue3
 t4:=Tryz.underlying4
 a4:=Tryz.isAgg4
 z4:=Tryz.sizeOf4
 v4:=Tryz.zeroValue4
 t22:=Tryz.underlying34
 a22:=Tryz.isAgg34
 z22:=Tryz.sizeOf34
 v22:=Tryz.zeroValue34
 t40:=Tryz.underlying58
 a40:=Tryz.isAgg58
 z40:=Tryz.sizeOf58
 v40:=Tryz.zeroValue58 }
end Go.Proofs.YtcidobpbepeakaaGreat

namespace Go.Proofs.YtcidobpbepeakaaGreat
open Go.RowKit Go.Shelf
attribute [local go_sem] Oper.semAt_some
def ValOk (A:Option Addr) (i:Nat) (x:Int) (w:World):Prop:=∃ad:Addr,A=some ad∧w.cell? (ad.add i)=some (.int .i64 x)
theorem values_any (A:Option Addr) (n c:Nat) (w:World):
    Calls Tryz.prog 78 #[.slice A n c] w fun e w'=>e=.returned (.func (.func 122) #[] #[.pointer (some ⟨w.heap.size,0,none⟩)])∧w'=w.alloc (.cells #[.slice A n c] 34):=by
 go_enter Tryz.func78,Tryz.ntmps78
 go_wp2_with fail
 go_ret
 exact ⟨rfl,rfl⟩
theorem values_gives (A:Option Addr) (n c b1:Nat) (w:World) (hn:n≤4194304) (h1:b1 < w.heap.size) (c1:w.cell? ⟨b1,0,none⟩=some (.slice A n c)) (hI:IntsAt w A n):
    Gives Tryz.prog 122 #[.pointer (some ⟨b1,0,none⟩)] (fun x:Int=>#[.int .i64 x]) (ValOk A) n Still (fun A1 A2=>IntsAt A1 A n→IntsAt A2 A n) w:=by
 intro l J Jx W hW _ hJ hJx hY h0
 have C1:=(hW.cell (p:=⟨b1,0,none⟩) h1).trans c1
 have HI:Hid (IntsAt W A n):=Lib.hid fun j hj=>by
  obtain ⟨ad,v,e,hc⟩:=hI j hj
  have hlt:=cell_in hc
  exact ⟨ad,v,e,(hW.cell hlt).trans hc⟩
 have HY:=Lib.hid hY
 clear hY hJ hJx c1 hW h1 hI
 refine (callsIn_wide (n:=0)).1 ?_
 refine callsIn_of_wp Tryz.func122 rfl trivial ?_ rfl
 simp only [Tryz.ntmps122,List.size_toArray,List.length_cons,List.length_nil,Nat.reduceAdd,Nat.reduceSub,Array.replicate_succ,Array.replicate_zero,List.push_toArray,List.append_toArray,List.nil_append,List.cons_append]
 gi_wp2
 gi_loopw [7] (fun i wr=>∃k:Nat,k≤n∧i=.int .i64 (k:Int)∧Hid (J k wr)∧Hid (IntsAt wr A n)) (fun i _=>n - (intOf i).toNat)
 case atStart=>exact ⟨0,Nat.zero_le _,rfl,Lib.hid h0,HI⟩
 case round=>
  clear C1 HI
  obtain ⟨k,hk,rfl,hJs,HIs⟩:=hrel
  by_cases hlt:k < n
  · have hltk:(k:Int) < (n:Int):=by omega
    obtain ⟨ad,v,rfl,hc⟩:=HIs.out k hlt
    have hy0:=HY.out k v wr hlt ⟨ad,rfl,hc⟩ hJs.out
    obtain ⟨fn,tmps,assign,body,hy,hR⟩:=hy0
    clear hJs
    gi_wp2
    refine ⟨rfl,hR.mono ?_⟩
    rintro e W3 (⟨rfl,hJ3,hk2⟩ | ⟨rfl,hJx3,_⟩)
    · have HJ3:=Lib.hid hJ3
      have HI3:=Lib.hid (hk2 HIs.out)
      clear hk2 hJ3 hy hR HIs
      gi_wp2
      go_roundw
      case rel=>exact ⟨k+1,by omega,by go_num,HJ3,HI3⟩
      case measure=>simp [intOf];omega
    · gi_wp2
      refine bodyPost_ret (results_none rfl _ _ _) rfl ?_
      exact ⟨⟨_,rfl⟩,.inr hJx3⟩
  · have hkn:k=n:=by omega
    have hge:¬(k:Int) < (n:Int):=by omega
    rw [hkn] at hJs
    clear hkn
    gi_wp2
    go_end0
    exact ⟨⟨_,rfl⟩,.inl hJs.out⟩
structure GIn (w:World) (lo:Nat) (A:Option Addr) (n:Nat) (V:Nat→Int) (i:Nat) (W:World):Prop where
 box:∃s,W.cell? ⟨lo,0,none⟩=some s∧W.frozen? ⟨lo,0,none⟩=false∧W.ownsRow (lo+3) 3 1 s i (icells V i)
 its:Its W lo A n V
 below:Below lo w W
theorem ownsRow_putObj2 {w:World} {B n D:Nat} {t:TypeId} {v:Value} {cs:List Value} {o:Obj} (h:w.ownsRow B t 1 v n cs) (o':Obj) (hD:w.heap[D]?=some o) (ho:(match o with | .cells _ _ _=>true | _=>false)=false):(w.putObj D o').ownsRow B t 1 v n cs:=by
 refine ⟨h.1,?_⟩
 rcases h.2 with h0 | ⟨g,cap,cur,e,h1,h2,h3⟩
 · exact .inl h0
 · refine .inr ⟨g,cap,cur,e,h1,(World.putObj_heap_other (fun e'=>?_)).trans h2,h3⟩
   subst e'
   rw [hD] at h2
   cases h2
   cases ho
theorem own_less {w:World} {B B' n:Nat} {t:TypeId} {v:Value} {cs:List Value} (h:w.ownsRow B t 1 v n cs) (hB:B'≤B):w.ownsRow B' t 1 v n cs:=by
 refine ⟨h.1,?_⟩
 rcases h.2 with h0 | ⟨g,cap,cur,e,h1,h2⟩
 · exact .inl h0
 · exact .inr ⟨g,cap,cur,e,by omega,h2⟩
theorem appendSeq_any (A:Option Addr) (n c b1:Nat) (V:Nat→Int) (w:World) (hn:n≤4194304) (h1:b1 < w.heap.size) (c1:w.cell? ⟨b1,0,none⟩=some (.slice A n c)) (ho:Its w w.heap.size A n V):
    Calls Tryz.prog 173 #[.slice none 0 0,.func (.func 122) #[] #[.pointer (some ⟨b1,0,none⟩)]] w fun e w'=>∃v,e=.returned v∧w'.ownsRow w.heap.size 3 1 v n (icells V n)∧Below w.heap.size w w':=by
 obtain ⟨lo,hlo⟩:∃lo,w.heap.size=lo:=⟨_,rfl⟩
 rw [hlo] at ho h1 ⊢
 obtain ⟨w1,hw1⟩:∃w1,w.alloc (.cells #[.slice none 0 0] 34)=w1:=⟨_,rfl⟩
 have z1:w1.heap.size=lo+1:=by rw [←hw1,size_alloc,hlo]
 have k1:Below lo w w1:=by rw [←hw1,←hlo];exact (Below.refl _ _).alloc (Nat.le_refl _) _
 have l1:Lies w1 lo 34 [.slice none 0 0]:=by rw [←hw1,←hlo];exact lies_new w _ _
 have c11:=(k1.cell (p:=⟨b1,0,none⟩) h1).trans c1
 have G0:GIn w lo A n V 0 w1:=⟨⟨_,l1.cell 0,l1.free 0,World.ownsRow_nil _ _ _ _⟩,ho.below k1,k1⟩
 have hG:=values_gives A n c b1 w1 hn (by omega) c11 (ints_of_its G0.its)
 have hlA:∀ad,A=some ad→0 < n→ad.block < lo:=fun ad e hn0=>by
  obtain ⟨ad',e',hb,_⟩:=ho 0 hn0
  rw [e] at e'
  cases e'
  exact hb
 obtain ⟨i0,hi0,hz0,hs0,hb0⟩:=info_parts info_i64
 clear ho c1 c11
 refine (callsIn_wide (n:=0)).1 ?_
 refine callsIn_of_wp_marks Tryz.func173 rfl trivial ?_ rfl
 simp only [Tryz.ntmps173,List.size_toArray,List.length_cons,List.length_nil,Nat.reduceAdd,Nat.reduceSub,Array.replicate_succ,Array.replicate_zero,List.push_toArray,List.append_toArray,List.nil_append,List.cons_append]
 gi_wp2
 refine range_law (gf:=122) (lb:=#[.pointer (some ⟨b1,0,none⟩)]) rfl (enters_of Tryz.func122 (by kernel_rfl) rfl) hG (fun _=>rfl)
  (fun W W'=>Off (fun k=>k < lo∨k=lo+1∨k=lo+2) W W'∧IntsAt W' A n) (fun i W=>Hid (GIn w lo A n V i W)) (fun _ _=>False)
  (fun A1 A2 h k _ _ _=>by rw [h.heap]) (fun A1 A2 h k h2 h3 h4=>h.1.block k h4 (by omega)) ?kp ?inv (fun _ _ _ h _=>h.elim) ?ok (Lib.hid G0)
  (fun x=>{ tmps:=#[.slice none 0 0,.func (.func 122) #[] #[.pointer (some ⟨b1,0,none⟩)],.pointer (some ⟨lo,0,none⟩),undef,.slice none 0 0,.int .i64 x,.func (.func 122) #[] #[.pointer (some ⟨b1,0,none⟩)],.int .i64 x,undef,undef,undef,undef,undef],defers:=[] }) ?assign ?body ?done (fun _ _ _ _ h _=>h.elim)
 case kp=>
  intro A1 B1 C1 D1 hs g1 g2 g3 _ j hj
  rw [z1] at g1 g3
  obtain ⟨ad,v,e,hc⟩:=g2.2 j hj
  refine ⟨ad,v,e,(World.cell?_of_block (g3.block _ (cell_in hc) (fun e'=>?_))).trans hc⟩
  injection e' with e'
  have:=hlA ad e (by omega)
  rw [add_block] at e'
  omega
 case inv=>
  intro i A1 A2 h g
  have hg:A1.grownBy A2 (some (lo+2)):=by
   rcases g with g | g
   · rw [z1] at g
     exact g
   · exact ⟨g.os,g.tape,g.output,by rw [g.heap];exact Nat.le_refl _,fun k _ _=>by rw [g.heap]⟩
  obtain ⟨s,b1',b2',b3'⟩:=h.out.box
  have hO:Off (fun k=>k≠lo+2) A1 A2:=Off.grown hg (fun k e'=>by cases e';exact fun hh=>hh rfl)
  have hb:Below lo A1 A2:=hO.below (by have:=cell_in b1';have:lo < A1.heap.size:=this;omega) (fun k hk=>by omega)
  refine Lib.hid ⟨⟨s,hO.cell b1' (by show lo≠lo+2;omega),hO.free b1' b2' (by show lo≠lo+2;omega),b3'.kept hg ?_⟩,h.out.its.below hb,h.out.below.trans hb⟩
  rcases e:s.ownBlock with _ | q
  · exact .inl rfl
  · have:=(b3'.lt q e).1
    exact .inr (fun e'=>by injection e' with e';omega)
 case ok=>
  rintro i x A1 A2 r ⟨ad,e2,hc⟩ hr h
  refine ⟨ad,e2,(World.cell?_of_block (h.block _ (cell_in hc) (fun e'=>?_))).trans hc⟩
  injection e' with e'
  rw [add_block] at e'
  have hcc:=hc
  unfold World.cell? at hcc
  rw [add_block,e',hr] at hcc
  cases hcc
 case assign=>
  intro l x W K hK
  gi_wp2
  exact hK
 case body=>
  rintro l i x W hs hi ⟨ad,hA,hc⟩ hG
  rw [z1] at hs
  obtain ⟨sv,b1',b2',b3'⟩:=hG.out.box
  have hx:x=V i:=by
   obtain ⟨ad',e',_,hc',_⟩:=hG.out.its i hi
   rw [hA] at e'
   cases e'
   rw [hc] at hc'
   injection hc' with hc'
   injection hc' with _ hc'
  have HX:=Lib.hid hx
  have hlt:lo < W.heap.size:=by omega
  have HB3:=Lib.hid b3'
  have HCl:Hid (∀(z:Nat) (u:Value),[Value.int .i64 x][z]?=some u→(W.alloc (.cells #[.int .i64 x] 3)).cell? ((⟨W.heap.size,0,none⟩:Addr).add z)=some u):=Lib.hid fun z u hz=>by
   rw [Addr.add_mid,Nat.zero_add]
   exact ((lies_new W 3 [.int .i64 x]).cell z).trans hz
  have HIts:=Lib.hid hG.out.its
  have HBw:=Lib.hid hG.out.below
  have f1:=b2'
  clear hx hA hc hG b3'
  gi_wp2_with (gi_at_builtin;refine wpListIn_append_own _ rfl (.tmp 8) (.tmp 10) 34 rfl (lo+3) 3 i0 (.int .i64 0) 1 8 Tryz.underlying34 hi0 hz0 hs0 hb0 rfl (by decide) _ i _ rfl (HB3.out.alloc _) ⟨W.heap.size,0,none⟩ 1 1 [.int .i64 x] rfl rfl HCl.out (fun u hu=>by simp at hu;subst hu;rfl) (by unfold maxLen;omega) (by omega) (by rw [size_alloc];omega) ?_;intro v3 w3 hr3 hg3 _;obtain ⟨g3,cc3,rfl,hg3l,_,_,_⟩:=owns_some hr3 (Nat.succ_pos i);have HR3:=Lib.hid hr3;have HG3:=Lib.hid hg3;have hO3:Off (fun k=>k < lo+3) W w3:=(Off.grown (World.grownBy_alloc W (.cells #[.int .i64 x] 3) none) (fun k e'=>by cases e')).trans (Off.grown hg3 (fun k e'=>by have:=(HB3.out.lt k e').1;omega));have n1:=hO3.cell b1' (by show lo < lo+3;omega);have n2:=hO3.free b1' b2' (by show lo < lo+3;omega);have HO3:=Lib.hid hO3)
  have hO4:Off (fun k=>k < lo∨k=lo+1∨k=lo+2) W (w3.setCell ⟨lo,0,none⟩ (.slice (some ⟨g3,0,none⟩) (i+1) cc3)):=(HO3.out.less (fun q hq=>by omega)).trans (Off.setCell (fun hq=>by have:lo < lo∨lo=lo+1∨lo=lo+2:=hq;omega) _)
  have hb4:Below lo W (w3.setCell ⟨lo,0,none⟩ (.slice (some ⟨g3,0,none⟩) (i+1) cc3)):=hO4.below (by omega) (fun k hk=>.inl hk)
  have hI4:=HIts.out.below hb4
  refine ⟨⟨hO4,ints_of_its hI4⟩,Lib.hid ⟨⟨_,World.cell?_setCell_same' _ _ _ (by rw [n1];rfl),(World.frozen?_setCell _ _ _ _).trans n2,?_⟩,hI4,HBw.out.trans hb4⟩⟩
  have h5:=HR3.out
  rw [HX.out,←icells_snoc] at h5
  exact owns_far h5 (fun e=>by injection e with e;have:g3=lo:=e;omega) _
 case done=>
  rintro D1 W hD hG hk
  rw [z1] at hD
  obtain ⟨sv,b1',b2',b3'⟩:=hG.out.box
  have hDl:=(Array.getElem?_eq_some_iff.1 hk).1
  have hb2:Below (lo+1) W (W.putObj D1 (.deferred none)):=below_row (grownBy_putObj' _ D1 _) (by omega) (fun z e=>by cases e;exact hD)
  have hrow:=ownsRow_putObj2 b3' (.deferred none) hk rfl
  have HF:Hid ((W.putObj D1 (.deferred none)).ownsRow lo 3 1 sv n (icells V n)∧Below lo w (W.putObj D1 (.deferred none))):=Lib.hid ⟨own_less hrow (by omega),hG.out.below.trans (hb2.mono (by omega))⟩
  clear hG b3' hrow
  gi_wp2
  refine ⟨by simp,.inl ⟨_,_,rfl,run_takeDeferred hk,?_⟩⟩
  exact ⟨sv,by simp [results,Tryz.results173,go_sem],sv,rfl,HF.out.1,HF.out.2⟩
end Go.Proofs.YtcidobpbepeakaaGreat
namespace Go.Proofs.YtcidobpbepeakaaGreat
open Go.RowKit Go.Shelf
def SortedAt (w:World) (lo n:Nat) (V:Nat→Int) (v:Value):Prop:=
 (n=0→∃A c,v=.slice A 0 c)∧(0 < n→∃g c,∃ys:List Int,v=.slice (some ⟨g,0,none⟩) n c∧lo≤g∧g < w.heap.size∧ys.length=n∧ys.Perm ((List.range n).map V)∧ys.Pairwise (·≤·)∧∀j,j < n→w.cell? ⟨g,j,none⟩=some (.int .i64 (ys.getD j 0)))
theorem sorted_any (A:Option Addr) (n c b1:Nat) (V:Nat→Int) (w:World) (hn:n≤4194304) (h1:b1 < w.heap.size) (c1:w.cell? ⟨b1,0,none⟩=some (.slice A n c)) (ho:Its w w.heap.size A n V):
    Calls Tryz.prog 77 #[.func (.func 122) #[] #[.pointer (some ⟨b1,0,none⟩)]] w fun e w'=>∃v,e=.returned v∧SortedAt w' w.heap.size n V v∧Below w.heap.size w w':=by
 have HA:=Lib.hid (appendSeq_any A n c b1 V w hn h1 c1 ho)
 have HV:=Lib.hid (fun i (hi:i < n)=>(by obtain ⟨_,_,_,_,h⟩:=ho i hi;exact h: -9223372036854775808≤V i∧V i≤9223372036854775807))
 obtain ⟨lo,hlo⟩:∃lo,w.heap.size=lo:=⟨_,rfl⟩
 rw [hlo] at HA ⊢
 have HCo:Hid (Calls Tryz.prog 121 #[.func (.func 122) #[] #[.pointer (some ⟨b1,0,none⟩)]] w fun e w'=>∃v,e=.returned v∧w'.ownsRow lo 3 1 v n (icells V n)∧Below lo w w'):=Lib.hid (by
  clear ho
  go_enter Tryz.func121,Tryz.ntmps121
  go_wp2_with fail
  refine HA.out.mono ?_
  rintro e w1 ⟨v1,rfl,ho1,k1⟩
  have HO:=Lib.hid ho1
  clear HA ho1
  go_wp2_with fail
  go_ret
  exact ⟨_,rfl,HO.out,k1⟩)
 clear HA ho c1
 go_enter Tryz.func77,Tryz.ntmps77
 go_wp2_with fail
 refine HCo.out.mono ?_
 rintro e w1 ⟨v1,rfl,ho1,k1⟩
 clear HCo
 rcases Nat.eq_zero_or_pos n with rfl | hn0
 · obtain ⟨A',c',rfl,_⟩:=ItsR.of_own ho1 (fun i hi=>absurd hi (Nat.not_lt_zero i))
   have hS:Calls Tryz.prog 66 #[.slice A' 0 c'] w1 fun e w'=>e=.returned (.tuple #[])∧w'=w1:=Any.slices_Sort_int_none sortLays A' c' w1
   have HS:=Lib.hid hS
   clear ho1 hS
   go_wp2_with fail
   refine HS.out.mono ?_
   rintro e w2 ⟨rfl,rfl⟩
   clear HS
   go_wp2_with fail
   go_ret
   exact ⟨_,rfl,⟨fun _=>⟨_,_,rfl⟩,fun h=>absurd h (Nat.lt_irrefl 0)⟩,k1⟩
 · obtain ⟨g,cap,rfl,hg1,hg2,hc1,hc2⟩:=owns_some ho1 hn0
   obtain ⟨zs,hzs⟩:∃zs,(List.range n).map V=zs:=⟨_,rfl⟩
   have hzl:zs.length=n:=by rw [←hzs];simp
   have hzd:∀j,j < n→zs.getD j 0=V j:=fun j hj=>by
    rw [←hzs,List.getD_eq_getElem?_getD,List.getElem?_map,List.getElem?_range hj]
    rfl
   have hcell:∀j,j < zs.length→w1.cell? ⟨g,0+j,none⟩=some (.int .i64 (zs.getD j 0)):=fun j hj=>by
    rw [hzl] at hj
    rw [Nat.zero_add,hzd j hj,ho1.cellAt j (by omega)]
    exact icells_at V n j hj
   have hH:=Lib.holds_of_ints (n:=zs.length) (Nat.le_refl _) hcell (fun j _=>owns_free ho1 (0+j))
   rw [List.take_of_length_le (Nat.le_refl _)] at hH
   have hS:=Any.slices_Sort_int sortLays g 0 cap zs w1 hH hg2 (by omega)
   have hyl:(zs.mergeSort fun x y=>decide (x≤y)).length=zs.length:=by simp
   have hS2:Calls Tryz.prog 66 #[.slice (some ⟨g,0,none⟩) n cap] w1 fun e w'=>e=.returned (.tuple #[])∧SortedAt w' lo n V (.slice (some ⟨g,0,none⟩) n cap)∧Below lo w1 w':=by
    rw [hzl] at hS
    refine Calls.mono hS ?_
    rintro e w2 ⟨rfl,q,os,rfl⟩
    rw [Lib.sorted_world _ w1 g 0 q _ _ os hH (by simp)]
    have hb:Below lo w1 (Go.Sort.grow ((w1.drewN q).setCells g 0 ((zs.mergeSort fun x y=>decide (x≤y)).map (Value.int .i64))) os):=by
     have h3:Below lo w1 ((w1.drewN q).setCells g 0 ((zs.mergeSort fun x y=>decide (x≤y)).map (Value.int .i64))):=(below_drewN' (Below.refl lo w1) q).trans (below_cells hg1 _ _ _)
     exact h3.trans (below_grow_ (by have:=h3.size;have:=k1.size;omega) os)
    refine ⟨rfl,⟨fun h=>by omega,fun _=>⟨g,cap,zs.mergeSort fun x y=>decide (x≤y),rfl,hg1,Nat.lt_of_lt_of_le hg2 hb.size,hyl.trans hzl,by rw [hzs];exact List.mergeSort_perm _ _,?_,fun j hj=>?_⟩⟩,hb⟩
    · have:=List.pairwise_mergeSort (le:=fun (x y:Int)=>decide (x≤y)) (fun a b c h1 h2=>by simp at h1 h2 ⊢;omega) (fun a b=>by simp;omega) zs
      exact this.imp (by simp)
    · have:=Lib.cells_sorted_ints (W:=w1) (b:=g) (off:=0) (n:=zs.length) (q:=q) (zs:=zs) (ys:=zs.mergeSort fun x y=>decide (x≤y)) (os:=os) (Nat.le_refl _) hyl hcell j (by simp [hzl];omega)
      rw [Nat.zero_add] at this
      rw [this]
      congr 2
      rw [List.getD_eq_getElem?_getD,List.getD_eq_getElem?_getD,List.getElem?_append_left (by simp [hzl];exact hj)]
   have HS:=Lib.hid hS2
   clear hS hS2 hH hcell hzd ho1
   go_wp2_with fail
   refine HS.out.mono ?_
   rintro e w2 ⟨rfl,h2,k2⟩
   have H2:=Lib.hid h2
   clear HS h2
   go_wp2_with fail
   go_ret
   exact ⟨_,rfl,H2.out,k1.trans k2⟩
def rkN (V:Nat→Int) (n p:Nat):Nat:=Pl.cnt (fun q=>decide (V q < V p)) n
theorem countP_cnt (V:Nat→Int) (x:Int):∀n,((List.range n).map V).countP (· < x)=Pl.cnt (fun q=>decide (V q < x)) n
 | 0=>rfl
 | n+1=>by
   rw [List.range_succ,List.map_append,List.countP_append,countP_cnt V x n,Pl.cnt_succ]
   by_cases h:V n < x <;> simp [h]
theorem cnt_less {f g:Nat→Bool} {n i:Nat} (h:∀q,q < n→f q=true→g q=true) (hi:i < n) (hg:g i=true) (hf:f i=false):Pl.cnt f n < Pl.cnt g n:=by
 obtain ⟨s,h1,h2⟩:=sel_nat f n
 exact pigeon_more (fun j hj=>⟨(h1 j hj).1,h _ (h1 j hj).1 (h1 j hj).2⟩) h2 hi hg (fun j hj e=>by
  have:=(h1 j hj).2
  rw [e,hf] at this
  cases this)
theorem rkN_lt {V:Nat→Int} {n p:Nat} (hp:p < n):rkN V n p < n:=by
 have:=cnt_less (f:=fun q=>decide (V q < V p)) (g:=fun _=>true) (n:=n) (i:=p) (fun _ _ _=>rfl) hp rfl (by simp)
 rw [cnt_all _ n (fun _ _=>rfl)] at this
 exact this
theorem rkN_iff {V:Nat→Int} {n i j:Nat} (hi:i < n) (hj:j < n):V i < V j↔xi (rkN V n) i < xi (rkN V n) j:=by
 have up:∀a b,a < n→b < n→V a < V b→rkN V n a < rkN V n b:=fun a b ha _ h=>
  cnt_less (i:=a) (fun q _ hq=>by simp at hq ⊢;omega) ha (by simp [h]) (by simp)
 constructor
 · intro h
   show ((rkN V n i:Nat):Int) < ((rkN V n j:Nat):Int)
   have:=up i j hi hj h
   omega
 · intro h
   have h:((rkN V n i:Nat):Int) < ((rkN V n j:Nat):Int):=h
   rcases Int.lt_trichotomy (V i) (V j) with g | g | g
   · exact g
   · have:rkN V n i=rkN V n j:=by unfold rkN;rw [g]
     omega
   · have:=up j i hj hi g
     omega
end Go.Proofs.YtcidobpbepeakaaGreat
