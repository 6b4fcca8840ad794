/- Texts of ours, joined: FindNew. -/
import Derived.Test.YtcidobpbepeakaaGreatB38
import Derived.Test.YtcidobpbepeakaaGreatB28
import Derived.Test.YtcidobpbepeakaaGreatB39
set_option maxRecDepth 1000000
set_option maxHeartbeats 6400000
namespace Go.Proofs.YtcidobpbepeakaaGreat
open Go.RowKit
open Pl (cnt cnt_succ cnt_congr)
theorem smax_any (A:Option Addr) (d c:Nat) (V f:Nat→Int) (B:Nat) (w:World) (hd:d≤4194304) (h0:f 0=V 0) (hs:∀i,f (i+1)=max (f i) (V (i+1))) (ho:Its w B A (d+1) V):
    Calls Tryz.prog 128 #[.slice A (d+1) c] w fun e w'=>e=.returned (.int .i64 (f d))∧w=w':=by
 have HO:=Lib.hid ho
 have HF:=Lib.hid h0
 have HS:=Lib.hid hs
 obtain ⟨ad,rfl,_,hc,_⟩:=ho 0 (by omega)
 rw [←h0] at hc
 obtain ⟨n,hn⟩:∃n,d+1=n:=⟨_,rfl⟩
 rw [hn] at HO ⊢
 have HN:=Lib.hid hn
 have d0:decide ((n:Int) < 1)=false:=decide_eq_false (by omega)
 have d1:0 < n:=by omega
 have d2:n≤4194305:=by omega
 rw [addr_add0] at hc
 clear ho h0 hs hn
 obtain ⟨f0,hf0⟩:∃f0,f 0=f0:=⟨_,rfl⟩
 rw [hf0] at hc
 have HF0:=Lib.hid hf0
 clear hf0
 go_enter Tryz.func128,Tryz.ntmps128
 go_wp2_with fail
 go_loop [3,4] (fun u v=>∃i:Nat,i+1≤n∧v=.int .i64 ((i+1:Nat):Int)∧∃x,u=.int .i64 x∧Hid (f i=x)) (fun _ v=>n - (intOf v).toNat)
 case atStart=>exact ⟨0,d1,rfl,f0,rfl,HF0⟩
 case round=>
  obtain ⟨i,hi,rfl,x,rfl,hx⟩:=hrel
  by_cases hlt:i+1 < n
  · obtain ⟨_,e,_,hc1,hv1⟩:=HO.out (i+1) hlt
    cases e
    have HX:Hid (f (i+1)=max x (V (i+1))):=Lib.hid (by rw [HS.out,hx.out])
    obtain ⟨j,hj⟩:∃j,i+1=j:=⟨_,rfl⟩
    rw [hj] at hc1 HX hlt ⊢
    have hlti:(j:Int) < (n:Int):=by omega
    obtain ⟨v,hv⟩:∃v,V j=v:=⟨_,rfl⟩
    rw [hv] at hc1 HX
    have HJ:=Lib.hid hj
    clear hx hv hv1 hj hc
    go_wp2_with fail
    go_round
    case rel=>exact ⟨j,by omega,by go_num,_,rfl,HX⟩
    case measure=>simp [intOf];omega
  · have hin:i+1=n:=by omega
    have hge:¬((i+1:Nat):Int) < (n:Int):=by omega
    have HX:Hid (f d=x):=Lib.hid (by
     rw [←hx.out]
     congr 1
     have:=HN.out
     omega)
    obtain ⟨j,hj⟩:∃j,i+1=j:=⟨_,rfl⟩
    rw [hj] at hge ⊢
    clear hin hx hj
    go_wp2_with fail
    go_ret
    exact ⟨by rw [HX.out];rfl,rfl⟩
def topI (V:Nat→Int):Nat→Int
 | 0=>V 0
 | d+1=>max (topI V d) (V (d+1))
theorem topI_le (V:Nat→Int):∀d i,i≤d→V i≤topI V d
 | 0,i,h=>by
   obtain rfl:i=0:=by omega
   exact Int.le_refl _
 | d+1,i,h=>by
   have e:topI V (d+1)=max (topI V d) (V (d+1)):=rfl
   by_cases g:i=d+1
   · subst g
     omega
   · have:=topI_le V d i (by omega)
     omega
theorem topI_at (V:Nat→Int):∀d,∃i,i≤d∧topI V d=V i
 | 0=>⟨0,Nat.le_refl _,rfl⟩
 | d+1=>by
   obtain ⟨i,h1,h2⟩:=topI_at V d
   have e:topI V (d+1)=max (topI V d) (V (d+1)):=rfl
   by_cases g:topI V d≤V (d+1)
   · exact ⟨d+1,Nat.le_refl _,by omega⟩
   · exact ⟨i,by omega,by omega⟩
theorem sindex_any (A:Option Addr) (n c:Nat) (V:Nat→Int) (x:Int) (j B:Nat) (w:World) (hn:n≤4194304) (hj:j < n) (hx:V j=x) (hf:∀i,i < j→V i≠x) (ho:Its w B A n V):
    Calls Tryz.prog 125 #[.slice A n c,.int .i64 x] w fun e w'=>e=.returned (.int .i64 (j:Int))∧w=w':=by
 have HO:=Lib.hid ho
 have HF:=Lib.hid (And.intro hx hf)
 clear hx hf ho
 go_enter Tryz.func125,Tryz.ntmps125
 go_wp2_with fail
 go_loop [8] (fun v=>∃i:Nat,i≤j∧v=.int .i64 (i:Int)) (fun v=>n - (intOf v).toNat)
 case atStart=>exact ⟨0,Nat.zero_le _,rfl⟩
 case round=>
  obtain ⟨i,hi,rfl⟩:=hrel
  have hlt:i < n:=by omega
  have hlti:(i:Int) < (n:Int):=by omega
  obtain ⟨ad,rfl,_,hc,_⟩:=HO.out i hlt
  by_cases e:i=j
  · subst e
    rw [HF.out.1] at hc
    have e1:(x==x)=true:=by simp
    go_wp2_with fail
    go_ret
    exact ⟨rfl,rfl⟩
  · have hne:=HF.out.2 i (by omega)
    obtain ⟨v,hv⟩:∃v,V i=v:=⟨_,rfl⟩
    rw [hv] at hc hne
    have e1:(x==v)=false:=by rw [beq_eq_false_iff_ne];exact fun g=>hne g.symm
    have e2:¬x=v:=fun g=>hne g.symm
    clear hv
    go_wp2_with fail
    go_round
    case rel=>exact ⟨i+1,by omega,by go_num⟩
    case measure=>simp [intOf];omega
theorem first_at {V:Nat→Int} {x:Int}:∀ {n:Nat},V n=x→∃j,j≤n∧V j=x∧∀i,i < j→V i≠x:=by
 intro n
 induction n using Nat.strongRecOn with
 | ind n ih=>
   intro h
   by_cases g:∃i,i < n∧V i=x
   · obtain ⟨i,h1,h2⟩:=g
     obtain ⟨j,h3,h4⟩:=ih i h1 h2
     exact ⟨j,by omega,h4⟩
   · exact ⟨n,Nat.le_refl _,h,fun i hi e=>g ⟨i,hi,e⟩⟩
theorem endsOnce_is (A:Option Addr) (n c:Nat) (V:Nat→Int) (w:World) (hn:n≤4194304) (hnc:n≤c) (ho:Its w w.heap.size A n V) (r:Bool) (hr:r=true↔OnceT V n):
    Calls Tryz.prog 80 #[.slice A n c] w fun e w'=>e=.returned (.bool r)∧w=w':=by
 rcases Nat.eq_zero_or_pos n with rfl | h0
 · obtain rfl:r=false:=Bool.eq_false_iff.2 fun e=>by have:=(hr.1 e).1;omega
   clear hr ho
   go_enter Tryz.func80,Tryz.ntmps80
   go_wp2_with fail
   go_ret
   exact ⟨rfl,rfl⟩
 · obtain ⟨l,hl⟩:∃l,n - 1=l:=⟨_,rfl⟩
   obtain ⟨j,hj1,hj2,hj3⟩:=first_at (V:=V) (x:=V l) (n:=l) rfl
   obtain ⟨ad,rfl,_,hc,_⟩:=ho l (by omega)
   have HI:=Lib.hid (sindex_any (some ad) n c V (V l) j w.heap.size w hn (by omega) hj2 hj3 ho)
   have hrj:decide (j=l)=r:=by
    rw [Bool.eq_iff_iff,hr,decide_eq_true_iff]
    unfold OnceT
    rw [hl]
    constructor
    · rintro rfl
      exact ⟨h0,fun i hi=>hj3 i (by omega)⟩
    · rintro ⟨_,h⟩
      by_cases e:j=l
      · exact e
      · exact absurd hj2 (h j (by omega))
   have e0:((j:Int)==(l:Int))=r:=by
    rw [←hrj,Bool.eq_iff_iff,beq_iff_eq,decide_eq_true_iff]
    omega
   have e1:IntKind.i64.wrap ((n:Int) - 1)=(l:Int):=by rw [IntWalk.i64_in _ (by omega)];omega
   have e2:(l:Int) < (n:Int):=by omega
   have e3:l < n:=by omega
   obtain ⟨x,hx⟩:∃x,V l=x:=⟨_,rfl⟩
   rw [hx] at hc HI
   have e4:(0:Int) < (n:Int):=by omega
   have e5:decide ((0:Int) < (n:Int))=true:=decide_eq_true e4
   clear hr ho hl hj1 hj2 hj3 hrj hx
   go_enter Tryz.func80,Tryz.ntmps80
   go_wp2_with (go_at_call 125;(with_reducible refine HI.out.mono ?_);rintro e w' ⟨rfl,rfl⟩)
   go_ret
   exact ⟨rfl,rfl⟩
theorem isOrder_is (A:Option Addr) (n c:Nat) (T:Nat→Int) (A':Option Addr) (n' c':Nat) (S:Nat→Int) (al:Int) (w:World) (hn:n≤4194303) (hn':n'≤4194303) (ho:ItsR w A n c T) (ho':ItsR w A' n' c' S) (r:Bool) (hr:r=true↔RightS T n al∧n'=n∧∃s,IsSA T n s∧∀i,i < n→S i=((s i:Nat):Int)):
    Calls Tryz.prog 81 #[.slice A' n' c',.slice A n c,.int .i64 al] w fun e w'=>e=.returned (.bool r)∧Below w.heap.size w w':=by
 have hA:=array_any A n c T al w (by unfold maxLen;omega) ho.1 ho.2.1 ho.2.2.1 ho.2.2.2
 unfold ArrayPost at hA
 have HO':=Lib.hid ho'
 by_cases hR:RightS T n al
 · have HA:Hid (Calls Tryz.prog 29 #[.slice A n c,.int .i64 al] w fun e w'=>(∃(A':Option Addr) (c':Nat) (s:Nat→Nat),e=.returned (.tuple #[.slice A' n c',.int .i64 0])∧IsSA T n s∧ItsR w' A' n c' (fun i=>((s i:Nat):Int)))∧Below w.heap.size w w'):=Lib.hid (hA.mono fun e w' h=>by
    obtain ⟨A2,c2,s,h1,h2,_,h3⟩:=h.1 hR
    exact ⟨⟨A2,c2,s,h1,h2,h3⟩,h.2.2⟩)
   have HR:=Lib.hid (And.intro hR hr)
   clear hA hr ho ho' hR
   go_enter Tryz.func81,Tryz.ntmps81
   go_wp2_with (go_at_call 29;(with_reducible refine HA.out.mono ?_);rintro e w1 ⟨⟨A2,c2,s,rfl,hs,hi⟩,hb⟩;have HE:=Lib.hid (equal_any A' A2 n' n c' c2 S (fun i=>((s i:Nat):Int)) w1.heap.size w1 (by omega) ((HO'.out.below hb).2.2.2) hi.2.2.2 r (by
    rw [HR.out.2]
    constructor
    · rintro ⟨_,h1,s',h2,h3⟩
      refine ⟨h1,fun i hi=>?_⟩
      rw [h1] at hi
      rw [h3 i hi,h2.one hs i hi]
    · rintro ⟨h1,h2⟩
      exact ⟨HR.out.1,h1,s,hs,fun i hi=>h2 i (by omega)⟩));have HB:=Lib.hid hb;clear hs hi hb)
   refine HE.out.mono ?_
   rintro e w2 ⟨rfl,j,rfl⟩
   go_wp2_with fail
   go_ret
   exact ⟨rfl,below_drewN' HB.out j⟩
 · obtain rfl:r=false:=Bool.eq_false_iff.2 fun e=>hR (hr.1 e).1
   have HA:Hid (Calls Tryz.prog 29 #[.slice A n c,.int .i64 al] w fun e w'=>(∃(A':Option Addr) (c':Nat),e=.returned (.tuple #[.slice A' 0 c',.int .i64 2]))∧Below w.heap.size w w'):=Lib.hid (hA.mono fun e w' h=>⟨h.2.1 hR,h.2.2⟩)
   clear hA hr ho ho' hR
   go_enter Tryz.func81,Tryz.ntmps81
   go_wp2_with (go_at_call 29;(with_reducible refine HA.out.mono ?_);rintro e w1 ⟨⟨A2,c2,rfl⟩,hb⟩;have HB:=Lib.hid hb;clear hb)
   go_ret
   exact ⟨rfl,HB.out⟩
theorem full_alike {w:World} {g gs width n:Nat} {ws:List Nat} {x y:Nat→Nat} (h:Full w g gs width n ws x) (e:∀i,i < n→x i=y i):Full w g gs width n ws y:=
 ⟨h.pk,⟨h.holds.w1,h.holds.w64,h.holds.len,h.holds.small,fun i hi=>by rw [←e i hi];exact h.holds.fits i hi,fun i j hi hj=>by rw [←e i hi];exact h.holds.bits i j hi hj,h.holds.behind⟩,h.few⟩
def PackedPost (w:World) (n most:Nat) (V:Nat→Int) (e:Ending) (w':World):Prop:=
 ∃(g gs:Nat) (ws:List Nat),e=.returned (.tuple #[.pointer (some ⟨g,0,none⟩),.int .i64 0])∧w.heap.size≤g∧w.heap.size≤gs∧Full w' g gs (wdN most) n ws (fun i=>(V i).toNat)∧Below w.heap.size w w'
theorem packed_any (A:Option Addr) (n c:Nat) (V:Nat→Int) (most:Nat) (w:World) (hn:n≤4194304) (hm:most≤4194304) (hV:∀i,i < n→0≤V i∧V i≤(most:Int)) (ho:ItsR w A n c V):
    Calls Tryz.prog 130 #[.slice A n c,.int .i64 (most:Int)] w (PackedPost w n most V):=by
 have HO:=Lib.hid ho
 obtain ⟨h1,h64,hlt,_⟩:=wdN_spec (x:=most) (by omega)
 have HW:=Lib.hid (widthOf_any most (by omega) w)
 obtain ⟨wd,hwd⟩:∃wd,wdN most=wd:=⟨_,rfl⟩
 rw [hwd] at h1 h64 hlt HW
 have HD:=Lib.hid hwd
 have HV:Hid (∀i,i < n→∃x:Nat,V i=(x:Int)∧x≤most∧x < 2^wd):=Lib.hid fun i hi=>⟨(V i).toNat,by have:=hV i hi;omega,by have:=hV i hi;omega,by have:=hV i hi;omega⟩
 have HN:=Lib.hid (new_full wd n h1 h64 hn w)
 have e0:IntKind.u64.wrap (most:Int)=(most:Int):=IntWalk.u64_in _ (by omega)
 clear ho hV h1 h64 hlt hwd
 go_enter Tryz.func130,Tryz.ntmps130
 go_wp2_with (first
  | (go_at_call 87;(with_reducible refine HW.out.mono ?_);rintro e w' ⟨rfl,rfl⟩)
  | (go_at_call 132;(with_reducible refine HN.out.mono ?_);rintro e w1 ⟨gp,gps,rfl,hg1,hg2,hb1,ws0,hF0⟩;have H0:=Lib.hid hF0;have HB1:=Lib.hid hb1;have HG:=Lib.hid (And.intro hg1 hg2);clear hF0 hb1 hg1 hg2))
 go_loopw [24] (fun v wr=>∃i:Nat,i≤n∧v=.int .i64 (i:Int)∧Hid (∃(ws:List Nat) (x:Nat→Nat),Full wr gp gps wd n ws x∧∀j,j < i→x j=(V j).toNat)∧Hid (Below w.heap.size w wr)) (fun v _=>n - (intOf v).toNat)
 case atStart=>exact ⟨0,Nat.zero_le _,rfl,Lib.hid ⟨ws0,_,H0.out,fun j h=>absurd h (Nat.not_lt_zero j)⟩,HB1⟩
 case round=>
  clear H0 HB1
  obtain ⟨i,hi,rfl,hF,hB⟩:=hrel
  by_cases hlt:i < n
  · have hlti:(i:Int) < (n:Int):=by omega
    obtain ⟨ad,rfl,_,hc,_⟩:=HO.out.2.2.2.below hB.out i hlt
    obtain ⟨y,hy,hym,hyw⟩:=HV.out i hlt
    rw [hy] at hc
    obtain ⟨ws,x,hFu,hx⟩:=hF.out
    have HS:=Lib.hid (hFu.set_ i y hlt hyw)
    have hsz:=hB.out.size
    have e1:IntKind.u64.wrap (y:Int)=(y:Int):=IntWalk.u64_in _ (by omega)
    have HX:Hid (∀j,j < i+1→(fun k=>if k=i then y else x k) j=(V j).toNat):=Lib.hid fun j hj=>by
     by_cases e:j=i
     · show (if j=i then y else x j)=_
       rw [if_pos e,e,hy,Int.toNat_natCast]
     · show (if j=i then y else x j)=_
       rw [if_neg e]
       exact hx j (by omega)
    clear hFu hx hF hy hyw
    go_wp2_with (go_at_call 133;(with_reducible refine HS.out.mono ?_);rintro e w2 ⟨rfl,ws2,hF2,hg2⟩;have HF2:=Lib.hid hF2;have HG2:=Lib.hid hg2;clear hF2 hg2)
    go_roundw
    case rel=>exact ⟨i+1,by omega,by go_num,Lib.hid ⟨ws2,_,HF2.out,HX.out⟩,Lib.hid (hB.out.trans (below_of_grownBy HG2.out HG.out.2 hsz))⟩
    case measure=>simp [intOf];omega
  · obtain rfl:i=n:=by omega
    have hge:¬(i:Int) < (i:Int):=by omega
    go_wp2_with fail
    go_ret2
    obtain ⟨ws,x,hFu,hx⟩:=hF.out
    exact ⟨gp,gps,ws,rfl,HG.out.1,HG.out.2,by rw [HD.out];exact full_alike hFu hx,hB.out⟩
theorem its_unlike {w:World} {B n:Nat} {A:Option Addr} {V:Nat→Int} {p:Addr} {u v:Value} (h:Its w B A n V) (hp:w.cell? p=some v) (hv:∀x,v≠.int .i64 x):Its (w.setCell p u) B A n V:=fun k hk=>by
 obtain ⟨ad,e,h1,h2,h3⟩:=h k hk
 refine ⟨ad,e,h1,(World.cell?_setCell_other _ _ _ _ ?_).trans h2,h3⟩
 rintro rfl
 rw [hp] at h2
 exact hv _ (Option.some.inj h2)
theorem itsR_unlike {w:World} {n c:Nat} {A:Option Addr} {V:Nat→Int} {p:Addr} {u v:Value} (h:ItsR w A n c V) (hp:w.cell? p=some v) (hv:∀x,v≠.int .i64 x):ItsR (w.setCell p u) A n c V:=
 ⟨h.1,h.2.1,h.2.2.1,(its_unlike h.2.2.2 hp hv).mono_ (by simp [World.setCell])⟩
theorem Mx.lowB {w:World} {B B' g gl cl n m:Nat} {V:Nat→Int} (h:Mx w B g gl cl n V m) (hB:B'≤B):Mx w B' g gl cl n V m:=
 ⟨h.head,h.cap,fun k hk=>by
   obtain ⟨gv,gw,av,ws,h1,h2⟩:=h.row k hk
   exact ⟨gv,gw,av,ws,h1,h2.lowB hB⟩,⟨Nat.le_trans hB h.lo.1,Nat.le_trans hB h.lo.2.1,h.lo.2.2⟩,h.right,h.sl⟩
theorem vptr_ne (a:Option Addr) (x:Int):Value.pointer a≠.int .i64 x:=fun e=>by cases e
structure TurnedAt (w w':World) (g n k:Nat) (V:Nat→Int) (last:Int) (m gm gl cl gb gbs wb:Nat) (wsb:List Nat):Prop where
 head:Lies w' g 118 [.int .i64 last,.int .i64 (k:Int),.pointer (some ⟨gm,0,none⟩),.pointer (some ⟨gb,0,none⟩),.pointer none,.pointer none]
 row:Mx w' w.heap.size gm gl cl n V m
 below:Full w' gb gbs wb (m+2) wsb (fun x=>belowI V n (x:Int))
 lo:w.heap.size≤gb∧w.heap.size≤gbs
 off:Off (fun q=>q≠g) w w'
theorem fdTurn_any (A:Option Addr) (n c:Nat) (T:Nat→Int) (A':Option Addr) (n' c':Nat) (S:Nat→Int) (last:Int) (k g m:Nat) (w:World) (h0:0 < n) (hn:n≤4194303) (hnn:n'=n) (hS:IsPerm S n) (hm:topI T (n - 1)=(m:Int)) (hm2:m≤4194302) (hT:∀i,i < n→0≤T i)
    (hl:Lies w g 118 [.int .i64 last,.int .i64 (k:Int),.pointer none,.pointer none,.pointer none,.pointer none]) (ho:ItsR w A n c T) (ho':ItsR w A' n' c' S):
    Calls Tryz.prog 82 #[.pointer (some ⟨g,0,none⟩),.slice A n c,.slice A' n' c'] w fun e w'=>e=.returned (.int .i64 0)∧∃gm gl cl gb gbs wb wsb,TurnedAt w w' g n k (turnI T n S) last m gm gl cl gb gbs wb wsb:=by
 obtain rfl:=hnn.symm
 obtain ⟨d,hd⟩:∃d,n - 1=d:=⟨_,rfl⟩
 have hnd:n=d+1:=by omega
 rw [hd] at hm
 have hV:∀i,i < n→0≤turnI T n S i∧turnI T n S i≤(m:Int):=fun i hi=>by
  have hp:=hS.1 i hi
  rw [turnI_at (p:=(S i).toNat) (by omega)]
  have hl:=aheadN_lt (show (S i).toNat < n by omega)
  have:=topI_le T d (aheadN n (S i).toNat) (by omega)
  exact ⟨hT _ hl,by omega⟩
 obtain ⟨V,hVe⟩:∃V,turnI T n S=V:=⟨_,rfl⟩
 have hMk:=bwMake_any A n c T A' n c' S w hn hn ho ho'
 unfold BMakePost at hMk
 rw [hVe] at hMk hV ⊢
 have HMk:Hid (Calls Tryz.prog 127 #[.slice A n c,.slice A' n c'] w fun e w'=>(∃(A2:Option Addr) (c2:Nat),e=.returned (.tuple #[.slice A2 n c2,.int .i64 0])∧ItsR w' A2 n c2 V)∧Below w.heap.size w w'):=Lib.hid (hMk.mono fun e w' h=>⟨h.1 ⟨rfl,hS⟩,h.2.2⟩)
 have HMx:∀W,Below w.heap.size w W→Hid (Calls Tryz.prog 128 #[.slice A n c] W fun e w'=>e=.returned (.int .i64 (m:Int))∧W=w'):=fun W hW=>Lib.hid (by
  have:=smax_any A d c T (topI T) W.heap.size W (by omega) rfl (fun i=>rfl) (by rw [←hnd];exact (ho.below hW).2.2.2)
  rwa [←hnd,hm] at this)
 have HV:=Lib.hid (show RightW V n (m:Int)∧RightS V n ((m+1:Nat):Int) from ⟨⟨by omega,by omega,by omega,hV⟩,⟨by omega,by omega,by omega⟩,fun i hi=>by have:=hV i hi;omega⟩)
 have HL:=Lib.hid hl
 have hg:=hl.lt
 have e1:IntKind.i64.wrap ((m:Int)+1)=((m+1:Nat):Int):=by rw [IntWalk.i64_in _ (by omega)];omega
 obtain ⟨m1,hm1⟩:∃m1,m+1=m1:=⟨_,rfl⟩
 rw [hm1] at e1 HV
 have HM1:=Lib.hid hm1
 clear ho ho' hMk hV hVe hm hT hd hnd hS hl hm1
 go_enter Tryz.func82,Tryz.ntmps82
 go_wp2_with fail
 refine HMk.out.mono ?_
 rintro e w1 ⟨⟨A2,c2,rfl,hi⟩,hb1⟩
 have HX:=HMx w1 hb1
 have HNw:=Lib.hid (wvNew_yes A2 n c2 V m w1 hn hi HV.out.1)
 have HI:=Lib.hid hi
 have HB1:=Lib.hid hb1
 clear hi hb1 HMk HMx
 go_wp2_with fail
 refine HX.out.mono ?_
 rintro e w1' ⟨rfl,rfl⟩
 clear HX
 go_wp2_with fail
 refine HNw.out.mono ?_
 rintro e w2 ⟨⟨gm,gl,cl,rfl,hMx⟩,hb2⟩
 have hB2:Below w.heap.size w w2:=HB1.out.trans (hb2.mono HB1.out.size)
 have hl2:=HL.out.below hB2 hg
 have c2':w2.cell? ⟨g,2,none⟩=some (.pointer none):=hl2.cell 2
 have f2:=hl2.free 2
 obtain ⟨w3,hw3⟩:∃w3,w2.setCell ⟨g,2,none⟩ (.pointer (some ⟨gm,0,none⟩))=w3:=⟨_,rfl⟩
 have hl3:Lies w3 g 118 [.int .i64 last,.int .i64 (k:Int),.pointer (some ⟨gm,0,none⟩),.pointer none,.pointer none,.pointer none]:=by rw [←hw3];exact hl2.put 2 _
 have hi3:ItsR w3 A2 n c2 V:=by rw [←hw3];exact itsR_unlike (HI.out.below hb2) c2' (vptr_ne _)
 have o23:Off (fun q=>q≠g) w2 w3:=by rw [←hw3];exact Off.setCell (fun h=>h rfl) _
 have o3:Off (fun q=>q≠g) w w3:=(Off.call hB2).trans o23
 have hMx3:Mx w3 w.heap.size gm gl cl n V m:=(hMx.keepB o23.size fun q hq hq2=>o23.block q hq2 (by have:=HB1.out.size;omega)).lowB HB1.out.size
 have hCo:=bwCounts_any A2 n c2 V (m1:Int) w3 hn (by have:=HM1.out;omega) hi3
 unfold BCountsPost at hCo
 have HCo:Hid (Calls Tryz.prog 129 #[.slice A2 n c2,.int .i64 (m1:Int)] w3 fun e w'=>(∃(A3:Option Addr) (c3:Nat),e=.returned (.tuple #[.slice A3 (m+2) c3,.int .i64 0])∧ItsR w' A3 (m+2) c3 (fun x=>((belowI V n (x:Int):Nat):Int)))∧Below w3.heap.size w3 w'):=Lib.hid (hCo.mono fun e w' h=>by
  obtain ⟨A3,c3,h1,h2⟩:=h.1 HV.out.2
  rw [Int.toNat_natCast,←HM1.out] at h1 h2
  exact ⟨⟨A3,c3,h1,h2⟩,h.2.2⟩)
 have HL3:=Lib.hid hl3
 have HO3:=Lib.hid o3
 have HMx3:=Lib.hid hMx3
 clear hMx hb2 hB2 hl2 hl3 hi3 o23 o3 hMx3 hCo HNw HI HB1
 go_wp2_with fail
 clear hw3
 refine HCo.out.mono ?_
 rintro e w4 ⟨⟨A3,c3,rfl,hi4⟩,hb4⟩
 have HPk:=Lib.hid (packed_any A3 (m+2) c3 _ n w4 (by omega) (by omega) (fun x _=>by
  have:=belowI_le V n (x:Int)
  show 0≤((belowI V n (x:Int):Nat):Int)∧((belowI V n (x:Int):Nat):Int)≤(n:Int)
  omega) hi4)
 have HB4:=Lib.hid hb4
 clear hb4 hi4 HCo
 go_wp2_with fail
 refine HPk.out.mono ?_
 rintro e w5 ⟨gb,gbs,wsb,rfl,hg1,hg2,hF,hb5⟩
 have hb45:Below w3.heap.size w3 w5:=HB4.out.trans (hb5.mono HB4.out.size)
 have hl5:=HL3.out.below hb45 HL3.out.lt
 have c5:w5.cell? ⟨g,3,none⟩=some (.pointer none):=hl5.cell 3
 have f5:=hl5.free 3
 have hlt3:=HL3.out.lt
 have hs4:=HB4.out.size
 have hs3:=HO3.out.size
 have HEnd:Hid (TurnedAt w (w5.setCell ⟨g,3,none⟩ (.pointer (some ⟨gb,0,none⟩))) g n k V last m gm gl cl gb gbs (wdN n) wsb):=Lib.hid (by
  have o56:Off (fun q=>q≠g) w5 (w5.setCell ⟨g,3,none⟩ (.pointer (some ⟨gb,0,none⟩))):=Off.setCell (fun h=>h rfl) _
  refine ⟨hl5.put 3 _,(HMx3.out.keep hb45).keepB o56.size fun q hq hq2=>o56.block q hq2 (by omega),full_alike (hF.far (p:=⟨g,3,none⟩) (by show gb≠g;omega) (by show gbs≠g;omega) _) (fun i _=>Int.toNat_natCast _),⟨by omega,by omega⟩,?_⟩
  exact HO3.out.trans ((Off.call hb45).trans o56))
 clear hb45 hl5 hF hb5 HPk HB4 HL3 HO3 HMx3 HV
 go_wp2_with fail
 go_ret
 exact ⟨rfl,_,_,_,_,_,_,_,HEnd.out⟩
theorem itsR_row {w:World} {B n c:Nat} {A:Option Addr} {V:Nat→Int} (h:w.ownsRow B 3 1 (.slice A n c) n (icells V n)) (hV:∀i,i < n→ -9223372036854775808≤V i∧V i≤9223372036854775807):ItsR w A n c V:=by
 obtain ⟨A',c',e,hI⟩:=ItsR.of_own h hV
 cases e
 exact hI
theorem wdN_one:wdN 1=1:=by decide
structure MkIn (w W:World) (G n k:Nat) (s:Nat→Nat) (i:Nat) (v:Value):Prop where
 marks:∃U,Lies W G 3 (icells U n)∧∀j,j < n→U j=if j < i∧s j%k=0 then 1 else 0
 mult:∃X:Nat→Nat,W.ownsRow (G+1) 3 1 v (cnt (mkB s k) i) (icells (fun p=>((X p:Nat):Int)) (cnt (mkB s k) i))∧(∀j,j < i→s j%k=0→X (cnt (mkB s k) j)=s j / k)∧∀p,p < cnt (mkB s k) i→X p≤(n - 1) / k
 below:Below G w W
theorem MkIn.miss {w W:World} {G n k i:Nat} {s:Nat→Nat} {v:Value} (h:MkIn w W G n k s i v) (hm:s i%k≠0):MkIn w W G n k s (i+1) v:=by
 obtain ⟨U,h1,h2⟩:=h.marks
 obtain ⟨X,h3,h4,h5⟩:=h.mult
 have e:cnt (mkB s k) (i+1)=cnt (mkB s k) i:=by rw [cnt_succ];unfold mkB;rw [decide_eq_false hm];rfl
 refine ⟨⟨U,h1,fun j hj=>?_⟩,⟨X,by rw [e];exact h3,fun j hj hz=>h4 j ?_ hz,by rw [e];exact h5⟩,h.below⟩
 · rw [h2 j hj]
   by_cases g:j=i
   · subst g
     rw [if_neg (fun g=>hm g.2),if_neg (fun g=>hm g.2)]
   · by_cases g2:j < i∧s j%k=0
     · rw [if_pos g2,if_pos ⟨by omega,g2.2⟩]
     · rw [if_neg g2,if_neg (fun g3=>g2 ⟨by omega,g3.2⟩)]
 · by_cases g:j=i
   · subst g
     exact absurd hz hm
   · omega
theorem MkIn.hit {w W W2:World} {G n k i c gx:Nat} {s:Nat→Nat} {v:Value} {U:Nat→Int} {X:Nat→Nat} (hi:i < n) (hs:s i < n) (hm:s i%k=0)
    (h1:Lies W G 3 (icells U n)) (h2:∀j,j < n→U j=if j < i∧s j%k=0 then 1 else 0) (h4:∀j,j < i→s j%k=0→X (cnt (mkB s k) j)=s j / k) (h5:∀p,p < cnt (mkB s k) i→X p≤(n - 1) / k)
    (hb:Below G w W) (hG:G≤w.heap.size) (hv:∀x,v.ownBlock=some x→G+1≤x)
    (ho:W2.ownsRow (G+1) 3 1 (.slice (some ⟨gx,0,none⟩) (cnt (mkB s k) i+1) c) (cnt (mkB s k) i+1) (icells (fun p=>((X p:Nat):Int)) (cnt (mkB s k) i)++[.int .i64 ((s i / k:Nat):Int)]))
    (hg:(W.setCell ⟨G,i,none⟩ (.int .i64 1)).grownBy W2 v.ownBlock):MkIn w W2 G n k s (i+1) (.slice (some ⟨gx,0,none⟩) (cnt (mkB s k) i+1) c):=by
 have e:cnt (mkB s k) (i+1)=cnt (mkB s k) i+1:=by rw [cnt_succ];unfold mkB;rw [decide_eq_true hm];rfl
 obtain ⟨q,hq⟩:∃q,cnt (mkB s k) i=q:=⟨_,rfl⟩
 rw [hq] at ho h5 e ⊢
 refine ⟨⟨putI U i 1,?_,fun j hj=>?_⟩,⟨fun p=>if p=q then s i / k else X p,?_,fun j hj hz=>?_,fun p hp=>?_⟩,?_⟩
 · have:=h1.put i (.int .i64 1)
   rw [icells_put] at this
   exact Lies.grown this hg (fun e'=>by have:=hv G e'.symm;omega)
 · by_cases g:j=i
   · subst g
     rw [putI_at,if_pos ⟨by omega,hm⟩]
   · rw [putI_off _ g,h2 j hj]
     by_cases g2:j < i∧s j%k=0
     · rw [if_pos g2,if_pos ⟨by omega,g2.2⟩]
     · rw [if_neg g2,if_neg (fun g3=>g2 ⟨by omega,g3.2⟩)]
 · rw [e]
   have:icells (fun p=>((if p=q then s i / k else X p:Nat):Int)) (q+1)=icells (fun p=>((X p:Nat):Int)) q++[.int .i64 ((s i / k:Nat):Int)]:=by
    rw [icells_snoc]
    congr 1
    · exact icells_congr fun j hj=>by rw [if_neg (by omega)]
    · rw [if_pos rfl]
   rw [this]
   exact ho
 · by_cases g:j=i
   · subst g
     show (if cnt (mkB s k) j=q then s j / k else _)=_
     rw [if_pos hq]
   · have hj2:cnt (mkB s k) j < q:=by
      have h1:=cnt_mono_ (f:=mkB s k) (show j+1≤i by omega)
      rw [cnt_succ,hq] at h1
      unfold mkB at h1
      rw [decide_eq_true hz,if_pos rfl] at h1
      unfold mkB
      omega
     show (if cnt (mkB s k) j=q then s i / k else X (cnt (mkB s k) j))=_
     rw [if_neg (by omega)]
     exact h4 j (by omega) hz
 · show (if p=q then s i / k else X p)≤_
   by_cases g:p=q
   · rw [if_pos g]
     exact Nat.div_le_div_right (by omega)
   · rw [if_neg g]
     exact h5 p (by omega)
 · refine (hb.setCell (p:=⟨G,i,none⟩) (Nat.le_refl _) _).grown hg ?_ (fun x hx=>by have:=hv x hx;omega)
   have:=hb.size
   simp [World.setCell]
   omega
structure MarkedAt (w w':World) (g n k:Nat) (s:Nat→Nat) (last:Int) (pm pb:Value) (gk gw gp gps wp:Nat) (av:Value) (wsk wsp:List Nat) (X:Nat→Nat):Prop where
 head:Lies w' g 118 [.int .i64 last,.int .i64 (k:Int),pm,pb,.pointer (some ⟨gk,0,none⟩),.pointer (some ⟨gp,0,none⟩)]
 marked:Vc w' w.heap.size gk gw av n wsk (mkB s k)
 places:Full w' gp gps wp (cnt (mkB s k) n) wsp X
 mult:∀i,i < n→s i%k=0→X (cnt (mkB s k) i)=s i / k
 lo:w.heap.size≤gp∧w.heap.size≤gps
 off:Off (fun q=>q≠g) w w'
theorem fdMark_any (A:Option Addr) (n c:Nat) (S:Nat→Int) (s:Nat→Nat) (last:Int) (pm pb:Value) (k g:Nat) (w:World) (h0:0 < n) (hn:n≤4194303) (hk:1≤k) (hk4:k≤4194304) (hS:∀i,i < n→S i=((s i:Nat):Int)) (hs:∀i,i < n→s i < n)
    (hl:Lies w g 118 [.int .i64 last,.int .i64 (k:Int),pm,pb,.pointer none,.pointer none]) (ho:ItsR w A n c S):
    Calls Tryz.prog 83 #[.pointer (some ⟨g,0,none⟩),.slice A n c] w fun e w'=>e=.returned (.int .i64 0)∧∃gk gw gp gps wp av wsk wsp X,MarkedAt w w' g n k s last pm pb gk gw gp gps wp av wsk wsp X:=by
 have HO:=Lib.hid ho
 have HL:=Lib.hid hl
 have HS:=Lib.hid (And.intro hS hs)
 have hg:=hl.lt
 obtain ⟨G,hG⟩:∃G,w.heap.size=G:=⟨_,rfl⟩
 have hMk:=make_ints0 w n (by omega)
 have l2:=lies_new w 3 (icells (fun _=>0) n)
 have b2:Below w.heap.size w (w.alloc (.cells (icells (fun _=>0) n).toArray 3)):=(Below.refl _ _).alloc (Nat.le_refl _) _
 have z2:(w.alloc (.cells (icells (fun _=>0) n).toArray 3)).heap.size=G+1:=by rw [size_alloc,hG]
 obtain ⟨w2,hw2⟩:∃w2,w.alloc (.cells (icells (fun _=>0) n).toArray 3)=w2:=⟨_,rfl⟩
 rw [hw2] at hMk l2 b2 z2
 rw [hG] at hMk l2 b2 hg
 have H0:Hid (MkIn w w2 G n k s 0 (.slice none 0 0)):=Lib.hid ⟨⟨_,l2,fun j hj=>by rw [if_neg (fun h=>absurd h.1 (Nat.not_lt_zero j))]⟩,⟨fun _=>0,World.ownsRow_nil _ _ _ _,fun j hj=>absurd hj (Nat.not_lt_zero j),fun p hp=>absurd hp (Nat.not_lt_zero p)⟩,b2⟩
 have HG:=Lib.hid hG
 clear ho hl hS hs l2 b2 hw2 hG
 go_enter Tryz.func83,Tryz.ntmps83
 go_wp2_with fail
 go_loopw [6,16] (fun v u wr=>∃i:Nat,i≤n∧u=.int .i64 (i:Int)∧Hid (MkIn w wr G n k s i v)∧G+1≤wr.heap.size) (fun _ u _=>n - (intOf u).toNat)
 case atStart=>exact ⟨0,Nat.zero_le _,rfl,H0,by omega⟩
 case round=>
  clear H0 hMk
  obtain ⟨i,hi,rfl,H,hsz⟩:=hrel
  have hB:=H.out.below
  have hlr:=HL.out.below hB hg
  have c1:wr.cell? ⟨g,1,none⟩=some (.int .i64 (k:Int)):=hlr.cell 1
  by_cases hlt:i < n
  · have hlti:(i:Int) < (n:Int):=by omega
    obtain ⟨ad,rfl,_,hc,_⟩:=(HO.out.below (by rw [HG.out];exact hB)).2.2.2 i hlt
    have hsi:=HS.out.2 i hlt
    rw [HS.out.1 i hlt] at hc
    obtain ⟨p,hp⟩:∃p,s i=p:=⟨_,rfl⟩
    rw [hp] at hc
    have hpn:p < n:=by omega
    obtain ⟨r,hr⟩:∃r,p%k=r:=⟨_,rfl⟩
    have e1:(p:Int).tmod (k:Int)=(r:Int):=by rw [Int.tmod_eq_emod_of_nonneg (by omega),←hr,Int.natCast_emod]
    have e2:(p:Int)%(k:Int)=(r:Int):=by rw [←hr,Int.natCast_emod]
    have e3:¬(k:Int)=0:=by omega
    by_cases hr0:r=0
    · have e4:((r:Int)==0)=true:=by rw [hr0];rfl
      obtain ⟨y,hy⟩:∃y,p / k=y:=⟨_,rfl⟩
      have e5:(p:Int).tdiv (k:Int)=(y:Int):=by rw [Int.tdiv_eq_ediv_of_nonneg (by omega),←hy,Int.natCast_ediv]
      have e6:(p:Int) / (k:Int)=(y:Int):=by rw [←hy,Int.natCast_ediv]
      have hyp:y≤p:=by rw [←hy];exact Nat.div_le_self _ _
      obtain ⟨U,hU1,hU2⟩:=H.out.marks
      obtain ⟨X,hX1,hX2,hX3⟩:=H.out.mult
      have cm:wr.cell? ⟨G,i,none⟩=some (.int .i64 (U i)):=by rw [hU1.cell];exact icells_at _ _ _ hlt
      have fm:=hU1.free i
      have hvlo:∀x,u6.ownBlock=some x→G+1≤x:=fun x hx=>(hX1.lt x hx).1
      obtain ⟨q,hq⟩:∃q,cnt (mkB s k) i=q:=⟨_,rfl⟩
      have hqi:q≤i:=by rw [←hq];exact cnt_le _ _
      have hX1':(wr.setCell ⟨G,i,none⟩ (.int .i64 1)).ownsRow (G+1) 3 1 u6 q (icells (fun p=>((X p:Nat):Int)) q):=by
       rw [hq] at hX1
       exact owns_far hX1 (a:=⟨G,i,none⟩) (fun e=>by have:=hvlo G e;omega) _
      have c1':(wr.setCell ⟨G,i,none⟩ (.int .i64 1)).cell? ⟨g,1,none⟩=some (.int .i64 (k:Int)):=(hlr.far (p:=⟨G,i,none⟩) (by show g≠G;omega) _).cell 1
      have z3:(wr.setCell ⟨G,i,none⟩ (.int .i64 1)).heap.size=wr.heap.size:=by simp [World.setCell]
      have HH:Hid (∀(gx c:Nat) (W2:World),W2.ownsRow (G+1) 3 1 (.slice (some ⟨gx,0,none⟩) (q+1) c) (q+1) (icells (fun p=>((X p:Nat):Int)) q++[.int .i64 (y:Int)])→(wr.setCell ⟨G,i,none⟩ (.int .i64 1)).grownBy W2 u6.ownBlock→MkIn w W2 G n k s (i+1) (.slice (some ⟨gx,0,none⟩) (q+1) c)∧G+1≤W2.heap.size):=Lib.hid fun gx c W2 h1 h2=>⟨by
       have:=MkIn.hit (w:=w) (W:=wr) (W2:=W2) (G:=G) (n:=n) (k:=k) (i:=i) (c:=c) (gx:=gx) (s:=s) (v:=u6) hlt hsi (by rw [hp,hr,hr0]) hU1 hU2 hX2 hX3 hB (by rw [HG.out];exact Nat.le_refl _) hvlo (by rw [hq,hp,hy];exact h1) h2
       rwa [hq] at this,by have:=h2.size;omega⟩
      obtain ⟨w3,hw3⟩:∃w3,wr.setCell ⟨G,i,none⟩ (.int .i64 1)=w3:=⟨_,rfl⟩
      rw [hw3] at hX1' c1' z3 HH
      subst hr0
      have HX1:=Lib.hid hX1'
      have hs3:G+1≤w3.heap.size:=by omega
      clear z3 hX1 hX2 hX3 hU1 hU2 hq hp hr hy hvlo hX1' hsi hlr
      go_wp2_with (at_builtin;refine step_append_int_own rfl (.tmp 31) (.tmp 38) rfl rfl HX1.out (y:Int) rfl (by omega) (by omega) ?_;intro gx cap w4 hown4 hg4 _;have HI:=Lib.hid (HH.out gx cap w4 hown4.out hg4.out.1);clear hown4 hg4)
      go_roundw
      case rel=>exact ⟨i+1,by omega,by go_num,Lib.hid HI.out.1,HI.out.2⟩
      case measure=>simp [intOf];omega
    · have e4:((r:Int)==0)=false:=by rw [beq_eq_false_iff_ne];omega
      have HI:=Lib.hid (H.out.miss (by rw [hp,hr];exact hr0))
      clear H hp hr hlr
      go_wp2_with fail
      go_roundw
      case rel=>exact ⟨i+1,by omega,by go_num,HI,hsz⟩
      case measure=>simp [intOf];omega
  · obtain rfl:i=n:=by omega
    have hge:¬(i:Int) < (i:Int):=by omega
    obtain ⟨U,hU1,hU2⟩:=H.out.marks
    obtain ⟨X,hX1,hX2,hX3⟩:=H.out.mult
    have hUr:∀j,j < i→0≤U j∧U j≤((1:Nat):Int):=fun j hj=>by
     rw [hU2 j hj]
     split <;> omega
    have hP1:=packed_any (some ⟨G,0,none⟩) i i U 1 wr (by omega) (by omega) hUr (itsR_liesW (by omega) hU1 fun j hj=>by have:=hUr j hj;omega)
    rw [show ((1:Nat):Int)=1 from rfl] at hP1
    have HP1:=Lib.hid hP1
    obtain ⟨q,hq⟩:∃q,cnt (mkB s k) i=q:=⟨_,rfl⟩
    have hqi:q≤i:=by rw [←hq];exact cnt_le _ _
    rw [hq] at hX1 hX3
    have hXr:∀p,p < q→ -9223372036854775808≤((X p:Nat):Int)∧((X p:Nat):Int)≤9223372036854775807:=fun p hp=>by
     have h1:=hX3 p hp
     have h2:=Nat.div_le_self (i - 1) k
     omega
    obtain ⟨A2,c2,rfl,_⟩:=ItsR.of_own hX1 hXr
    obtain ⟨y,hy⟩:∃y,(i - 1) / k=y:=⟨_,rfl⟩
    rw [hy] at hX3
    have hyi:y≤i:=by rw [←hy];exact Nat.le_trans (Nat.div_le_self _ _) (Nat.sub_le _ _)
    have e0:IntKind.i64.wrap ((i:Int) - 1)=((i - 1:Nat):Int):=by rw [IntWalk.i64_in _ (by omega)];omega
    obtain ⟨i1,hi1⟩:∃i1,i - 1=i1:=⟨_,rfl⟩
    rw [hi1] at e0 hy
    have e1:(i1:Int).tdiv (k:Int)=(y:Int):=by rw [Int.tdiv_eq_ediv_of_nonneg (by omega),←hy,Int.natCast_ediv]
    have e2:(i1:Int) / (k:Int)=(y:Int):=by rw [←hy,Int.natCast_ediv]
    have e3:¬(k:Int)=0:=by omega
    have hGw:=HG.out
    have hXlo:∀x,(Value.slice A2 q c2).ownBlock=some x→G+1≤x:=fun x hx=>(hX1.lt x hx).1
    have HU:=Lib.hid (And.intro hU1 hU2)
    have HX:=Lib.hid (And.intro hX1 (And.intro hX2 (And.intro hX3 (And.intro hq (And.intro hXr hXlo)))))
    clear hU1 hU2 hX1 hX2 hX3 hXr hXlo hUr hP1 hy hi1 hq
    go_wp2_with fail
    refine HP1.out.mono ?_
    rintro e w3 ⟨gb1,gbs1,ws1,rfl,hg1,hg2,hF1,hb3⟩
    rw [wdN_one] at hF1
    have HV:=Lib.hid (vnew_any hF1)
    have HB3:=Lib.hid hb3
    clear hF1 hb3 HP1
    go_wp2_with fail
    refine HV.out.mono ?_
    rintro e w4 ⟨gk,gw,av,wsk,rfl,hV4,hb4⟩
    have hbr4:Below wr.heap.size wr w4:=HB3.out.trans (hb4.mono HB3.out.size)
    have hl4:=hlr.below hbr4 hlr.lt
    have c4:w4.cell? ⟨g,4,none⟩=some (.pointer none):=hl4.cell 4
    have f4:=hl4.free 4
    have hX4:=ownsRow_keep HX.out.1 hbr4
    have hX5:=owns_far hX4 (a:=⟨g,4,none⟩) (fun e=>by have:=HX.out.2.2.2.2.2 g e;omega) (.pointer (some ⟨gk,0,none⟩))
    have o45:Off (fun q=>q≠g) w4 (w4.setCell ⟨g,4,none⟩ (.pointer (some ⟨gk,0,none⟩))):=Off.setCell (fun h=>h rfl) _
    have hl5:=hl4.put 4 (.pointer (some ⟨gk,0,none⟩))
    obtain ⟨w5,hw5⟩:∃w5,w4.setCell ⟨g,4,none⟩ (.pointer (some ⟨gk,0,none⟩))=w5:=⟨_,rfl⟩
    rw [hw5] at hX5 o45 hl5
    have hs3:=HB3.out.size
    have hs4:=hb4.size
    have hs5:=o45.size
    have c51:w5.cell? ⟨g,1,none⟩=some (.int .i64 (k:Int)):=hl5.cell 1
    have HP2:=Lib.hid (packed_any A2 q c2 (fun p=>((X p:Nat):Int)) y w5 (by omega) (by omega) (fun p hp=>by
     have:=HX.out.2.2.1 p hp
     show 0≤((X p:Nat):Int)∧((X p:Nat):Int)≤(y:Int)
     omega) (itsR_row hX5 HX.out.2.2.2.2.1))
    have HV5:Hid (Vc w5 w3.heap.size gk gw av i wsk (mkB s k)):=Lib.hid ((hV4.alikeF fun j hj=>by
     have h1:=HU.out.2 j hj
     show ((U j).toNat).testBit 0=mkB s k j
     unfold mkB
     by_cases g3:s j%k=0
     · rw [if_pos ⟨hj,g3⟩] at h1
       rw [h1,decide_eq_true g3]
       rfl
     · rw [if_neg (fun h=>g3 h.2)] at h1
       rw [h1,decide_eq_false g3]
       rfl).keepB o45.size fun x hx hx2=>o45.block x hx2 (by omega))
    have HL5:=Lib.hid hl5
    have HO5:Hid (Off (fun q=>q≠g) w w5):=Lib.hid ((Off.call (by rw [hGw];exact hB)).trans ((Off.call hbr4).trans o45))
    have hg5:=hl5.lt
    clear hV4 hb4 hbr4 hl4 hX4 hX5 o45 hl5 HV HB3 hlr HU H
    go_wp2_with fail
    clear hw5
    refine HP2.out.mono ?_
    rintro e w6 ⟨gp,gps,wsp,rfl,hg3,hg4,hF6,hb6⟩
    have hl6:=HL5.out.below hb6 hg5
    have c6:w6.cell? ⟨g,5,none⟩=some (.pointer none):=hl6.cell 5
    have f6:=hl6.free 5
    have HEnd:Hid (MarkedAt w (w6.setCell ⟨g,5,none⟩ (.pointer (some ⟨gp,0,none⟩))) g i k s last pm pb gk gw gp gps (wdN y) av wsk wsp X):=Lib.hid (by
     have o67:Off (fun q=>q≠g) w6 (w6.setCell ⟨g,5,none⟩ (.pointer (some ⟨gp,0,none⟩))):=Off.setCell (fun h=>h rfl) _
     have hs6:=hb6.size
     refine ⟨hl6.put 5 _,(((HV5.out.keep (hb6.mono (Nat.le_refl _))).keepB o67.size fun x hx hx2=>o67.block x hx2 (by omega))).lowB (by have:=hB.size;omega),?_,HX.out.2.1,⟨by have:=hB.size;omega,by have:=hB.size;omega⟩,HO5.out.trans ((Off.call hb6).trans o67)⟩
     rw [HX.out.2.2.2.1]
     exact full_alike (hF6.far (p:=⟨g,5,none⟩) (by show gp≠g;have:=hB.size;omega) (by show gps≠g;have:=hB.size;omega) _) (fun p _=>Int.toNat_natCast _))
    clear hl6 hF6 hb6 HP2 HV5 HL5 HO5 HX
    go_wp2_with fail
    go_ret
    exact ⟨rfl,_,_,_,_,_,_,_,_,_,HEnd.out⟩
theorem trnF_congr {T:Nat→Int} {n:Nat} {s s':Nat→Nat} (h:∀i,i < n→s i=s' i) {i:Nat} (hi:i < n):trnF T n s i=trnF T n s' i:=by unfold trnF;rw [h i hi]
theorem trnB_congr {T:Nat→Int} {n:Nat} {s s':Nat→Nat} (h:∀i,i < n→s i=s' i) (c:Int):trnB T n s c=trnB T n s' c:=cnt_congr fun i hi=>by rw [trnF_congr h hi]
theorem mkB_congr {n k:Nat} {s s':Nat→Nat} (h:∀i,i < n→s i=s' i) {i:Nat} (hi:i < n):mkB s k i=mkB s' k i:=by unfold mkB;rw [h i hi]
theorem Fd.other {w:World} {B g n al k:Nat} {T:Nat→Int} {s s':Nat→Nat} {a:FdA} (h:Fd w B g n T s al k a) (he:∀i,i < n→s i=s' i):Fd w B g n T s' al k a:=by
 have hc:∀i,i≤n→cnt (mkB s k) i=cnt (mkB s' k) i:=fun i hi=>cnt_congr fun j hj=>mkB_congr he (by omega)
 refine ⟨h.head,h.row,fun i hi=>(h.alike i hi).trans (trnF_congr he hi),?_,h.marked.alikeF fun i hi=>mkB_congr he hi,by rw [←hc n (Nat.le_refl _)];exact h.places,fun i hi hz=>?_,h.lo,h.once,h.sa.congr he,h.most,h.right,h.few,h.step⟩
 · have:(fun x:Nat=>trnB T n s' (x:Int))=fun x:Nat=>trnB T n s (x:Int):=funext fun x=>(trnB_congr he _).symm
   rw [this]
   exact h.below
 · rw [←hc i (by omega),←he i hi]
   exact h.mult i hi (by rw [he i hi];exact hz)
theorem fdNew_any (A:Option Addr) (n c:Nat) (T:Nat→Int) (A':Option Addr) (n' c':Nat) (S:Nat→Int) (al k:Int) (w:World) (hn:n≤4194303) (hn':n'≤4194303) (hal:al≤4194303∨4194304 < al) (ho:ItsR w A n c T) (ho':ItsR w A' n' c' S):
    Calls Tryz.prog 52 #[.slice A n c,.slice A' n' c',.int .i64 al,.int .i64 k] w fun e w'=>
     (∀s,FindOk T n n' S al k s→∃g a,e=.returned (.tuple #[.pointer (some ⟨g,0,none⟩),.int .i64 0])∧Fd w' w.heap.size g n T s al.toNat k.toNat a)∧((¬ ∃s,FindOk T n n' S al k s)→e=.returned (.tuple #[.pointer none,.int .i64 2]))∧Below w.heap.size w w':=by
 have HO:=Lib.hid ho
 have HO':=Lib.hid ho'
 by_cases h1:k < 1
 · have HNo:Hid (¬ ∃s,FindOk T n n' S al k s):=Lib.hid fun ⟨s,h⟩=>by have:=h.one;omega
   have d1:decide (k < 1)=true:=decide_eq_true h1
   clear ho ho'
   go_enter Tryz.func52,Tryz.ntmps52
   go_wp2_with fail
   go_ret2
   exact ⟨fun s h=>absurd ⟨s,h⟩ HNo.out,fun _=>rfl,Below.refl _ _⟩
 have d1:decide (k < 1)=false:=decide_eq_false h1
 by_cases h2:4194304 < k
 · have HNo:Hid (¬ ∃s,FindOk T n n' S al k s):=Lib.hid fun ⟨s,h⟩=>by have:=h.most;omega
   have d2:decide (4194304 < k)=true:=decide_eq_true h2
   clear ho ho'
   go_enter Tryz.func52,Tryz.ntmps52
   go_wp2_with fail
   go_ret2
   exact ⟨fun s h=>absurd ⟨s,h⟩ HNo.out,fun _=>rfl,Below.refl _ _⟩
 have d2:decide (4194304 < k)=false:=decide_eq_false h2
 have d3:(al==4194304)=false:=by rw [beq_eq_false_iff_ne];omega
 have d3':¬al=4194304:=by omega
 obtain ⟨r1,hr1⟩:∃r:Bool,r=true↔OnceT T n:=⟨@decide _ (Classical.propDecidable _),@decide_eq_true_iff _ (Classical.propDecidable _)⟩
 have HEn:=Lib.hid (endsOnce_is A n c T w (by omega) ho.2.1 ho.2.2.2 r1 hr1)
 rcases r1 with _ | _
 · have HNo:Hid (¬ ∃s,FindOk T n n' S al k s):=Lib.hid fun ⟨s,h⟩=>by have:=hr1.2 h.once;cases this
   clear ho ho' hr1
   go_enter Tryz.func52,Tryz.ntmps52
   go_wp2_with (go_at_call 80;(with_reducible refine HEn.out.mono ?_);rintro e w' ⟨rfl,rfl⟩)
   go_ret2
   exact ⟨fun s h=>absurd ⟨s,h⟩ HNo.out,fun _=>rfl,Below.refl _ _⟩
 have hOn:=hr1.1 rfl
 obtain ⟨r2,hr2⟩:∃r:Bool,r=true↔RightS T n al∧n'=n∧∃s,IsSA T n s∧∀i,i < n→S i=((s i:Nat):Int):=⟨@decide _ (Classical.propDecidable _),@decide_eq_true_iff _ (Classical.propDecidable _)⟩
 have HIs:=Lib.hid (isOrder_is A n c T A' n' c' S al w hn hn' ho ho' r2 hr2)
 rcases r2 with _ | _
 · have HNo:Hid (¬ ∃s,FindOk T n n' S al k s):=Lib.hid fun ⟨s,h⟩=>by have:=hr2.2 ⟨h.right,h.len,s,h.sa,h.list⟩;cases this
   clear ho ho' hr1 hr2 hOn
   go_enter Tryz.func52,Tryz.ntmps52
   go_wp2_with (first
    | (go_at_call 80;(with_reducible refine HEn.out.mono ?_);rintro e w' ⟨rfl,rfl⟩)
    | (go_at_call 81;(with_reducible refine HIs.out.mono ?_);rintro e w1 ⟨rfl,hb⟩;have HB:=Lib.hid hb;clear hb))
   go_ret2
   exact ⟨fun s h=>absurd ⟨s,h⟩ HNo.out,fun _=>rfl,HB.out⟩
 obtain ⟨hRS,hnn,s,hsa,hlist⟩:=hr2.1 rfl
 obtain rfl:=hnn.symm
 obtain ⟨kn,rfl⟩:∃kn:Nat,k=(kn:Int):=⟨k.toNat,by omega⟩
 obtain ⟨an,rfl⟩:∃an:Nat,al=(an:Int):=⟨al.toNat,by have:=hRS.1.1;omega⟩
 have h0:=hOn.1
 have hans:an≤4194303:=by have:=hRS.1.2.1;omega
 obtain ⟨m,hm⟩:∃m:Nat,topI T (n - 1)=(m:Int):=by
  obtain ⟨i,hi,e⟩:=topI_at T (n - 1)
  have:=hRS.2 i (by omega)
  exact ⟨(topI T (n - 1)).toNat,by omega⟩
 have hmal:m < an:=by
  obtain ⟨i,hi,e⟩:=topI_at T (n - 1)
  have:=hRS.2 i (by omega)
  omega
 have hPerm:IsPerm S n:=⟨fun i hi=>by have:=hsa.1 i hi;rw [hlist i hi];omega,fun i j hij hj e=>by
  rw [hlist i (by omega),hlist j hj] at e
  have:=hsa.inj (show i < n by omega) hj (by omega)
  omega⟩
 obtain ⟨l,hl⟩:∃l,n - 1=l:=⟨_,rfl⟩
 have hln:l < n:=by omega
 have hll:(l:Int) < (n:Int):=by omega
 have e1:IntKind.i64.wrap ((n:Int) - 1)=(l:Int):=by rw [IntWalk.i64_in _ (by omega)];omega
 have HP:=Lib.hid (And.intro hRS (And.intro hsa (And.intro hlist (And.intro hOn (And.intro hm (And.intro hPerm hl))))))
 have hTn:T (n - 1)=T l:=by rw [hl]
 clear ho ho' hr1 hr2 hOn hRS hsa hlist hnn hm hPerm hl h0
 go_enter Tryz.func52,Tryz.ntmps52
 go_wp2_with fail
 refine HEn.out.mono ?_
 rintro e w' ⟨rfl,rfl⟩
 go_wp2_with fail
 refine HIs.out.mono ?_
 rintro e w1 ⟨rfl,hb1⟩
 obtain ⟨ad,rfl,_,hc,_⟩:=(HO.out.below hb1).2.2.2 l hln
 obtain ⟨x,hx⟩:∃x,T l=x:=⟨_,rfl⟩
 rw [hx] at hc
 obtain ⟨w2,hw2⟩:∃w2,w1.alloc (.cells #[.int .i64 x,.int .i64 (kn:Int),.pointer none,.pointer none,.pointer none,.pointer none] 118)=w2:=⟨_,rfl⟩
 obtain ⟨g,hg⟩:∃g,w1.heap.size=g:=⟨_,rfl⟩
 have l2:Lies w2 g 118 [.int .i64 x,.int .i64 (kn:Int),.pointer none,.pointer none,.pointer none,.pointer none]:=by rw [←hw2,←hg];exact lies_new w1 _ _
 have b2:Below w1.heap.size w1 w2:=by rw [←hw2];exact (Below.refl _ _).alloc (Nat.le_refl _) _
 have hwg:w.heap.size≤g:=by rw [←hg];exact hb1.size
 have B2:Below w.heap.size w w2:=hb1.trans (b2.mono hb1.size)
 have HTu:=Lib.hid (fdTurn_any (some ad) n c T A' n c' S x kn g m w2 HP.out.2.2.2.1.1 hn rfl HP.out.2.2.2.2.2.1 HP.out.2.2.2.2.1 (by omega) (fun i hi=>(HP.out.1.2 i hi).1) l2 (HO.out.below B2) (HO'.out.below B2))
 have HB2:=Lib.hid B2
 have z2:g < w2.heap.size:=l2.lt
 have HX:=Lib.hid (hTn.trans hx)
 clear hx hTn hb1 b2 B2 l2 HEn HIs
 go_wp2_with fail
 clear hw2 hg
 refine HTu.out.mono ?_
 rintro e w3 ⟨rfl,gm,gl,cl,gb,gbs,wb,wsb,hTu⟩
 have B3:Below w.heap.size w w3:=HB2.out.trans (hTu.off.below HB2.out.size (fun q hq=>by omega))
 have HMa:=Lib.hid (fdMark_any A' n c' S s x (.pointer (some ⟨gm,0,none⟩)) (.pointer (some ⟨gb,0,none⟩)) kn g w3 HP.out.2.2.2.1.1 hn (by omega) (by omega) HP.out.2.2.1 (fun i hi=>HP.out.2.1.1 i hi) hTu.head (HO'.out.below B3))
 have HT:=Lib.hid hTu
 have HB3:=Lib.hid B3
 clear hTu B3 HTu
 go_wp2_with fail
 refine HMa.out.mono ?_
 rintro e w4 ⟨rfl,gk,gw,gp,gps,wp,av,wsk,wsp,X,hMa⟩
 have HFin:Hid (Below w.heap.size w w4∧Fd w4 w.heap.size g n T s an kn ⟨gm,gl,cl,m,gb,gbs,wb,gk,gw,gp,gps,wp,wsb,wsk,wsp,av,X,turnI T n S⟩):=Lib.hid (by
  obtain ⟨hRS,hsa,hlist,hOn,hm,hPerm,hl⟩:=HP.out
  have hs2:=HB2.out.size
  have hs3:=HB3.out.size
  have hst:=HT.out.off.size
  have hV:∀i,i < n→turnI T n S i=trnF T n s i:=fun i hi=>by rw [turnI_at (hlist i hi),trnF_at hsa hi]
  refine ⟨HB3.out.trans (hMa.off.below HB3.out.size (fun q hq=>by omega)),⟨by rw [HX.out];exact hMa.head,((HT.out.row.keepB hMa.off.size fun q hq hq2=>hMa.off.block q hq2 (by omega))).lowB hs2,hV,?_,hMa.marked.lowB hs3,hMa.places,hMa.mult,⟨hwg,Nat.le_trans hs2 HT.out.lo.1,Nat.le_trans hs2 HT.out.lo.2,Nat.le_trans hs3 hMa.lo.1,Nat.le_trans hs3 hMa.lo.2⟩,hOn,hsa,fun i hi=>⟨(hRS.2 i hi).1,by rw [←hm];exact topI_le T (n - 1) i (by omega)⟩,fun i hi=>(hRS.2 i hi).2,hn,⟨by omega,by omega⟩⟩⟩
  have h1:=HT.out.below
  have h2:=h1.keep (hMa.off.block gb h1.pk.head.lt (by have:=HT.out.lo.1;show gb≠g;omega)) (hMa.off.block gbs h1.pk.body.lt (by have:=HT.out.lo.2;show gbs≠g;omega))
  have:(fun x:Nat=>trnB T n s (x:Int))=fun x:Nat=>belowI (turnI T n S) n (x:Int):=funext fun x=>cnt_congr fun i hi=>by rw [hV i hi]
  show Full w4 gb gbs wb (m+2) wsb fun x=>trnB T n s (x:Int)
  rw [this]
  exact h2)
 obtain ⟨fa,hfa⟩:∃a,Fd w4 w.heap.size g n T s an kn a:=⟨_,HFin.out.2⟩
 have HFa:=Lib.hid hfa
 clear hMa HMa HT HB3 HB2 hfa
 go_wp2_with fail
 go_ret2
 refine ⟨fun s' h=>⟨g,fa,rfl,?_⟩,fun h=>?_,HFin.out.1⟩
 · rw [Int.toNat_natCast,Int.toNat_natCast]
   exact HFa.out.other (HP.out.2.1.one h.sa)
 · obtain ⟨hRS,hsa,hlist,hOn,hm,hPerm,hl⟩:=HP.out
   exact absurd ⟨s,⟨hRS,by omega,hOn,rfl,hsa,hlist,by omega,by omega⟩⟩ h
end Go.Proofs.YtcidobpbepeakaaGreat
