/- Texts of ours, joined: RmqAny. -/
import Derived.Test.YtcidobpbepeakaaGreatB21
import Derived.Test.YtcidobpbepeakaaGreatB12
set_option maxRecDepth 1000000
set_option maxHeartbeats 6400000
namespace Go.Proofs.YtcidobpbepeakaaGreat
open Go.RowKit
def rcells (P:List (Nat×Nat)):List Value:=P.map fun x=>.slice (some ⟨x.1,0,none⟩) x.2 x.2
theorem rcells_at {P:List (Nat×Nat)} {k:Nat} {x:Nat×Nat} (h:P[k]?=some x):(rcells P)[k]?=some (.slice (some ⟨x.1,0,none⟩) x.2 x.2):=by
 unfold rcells
 rw [List.getElem?_map,h]
 rfl
theorem rcells_snoc (P:List (Nat×Nat)) (x:Nat×Nat):rcells (P++[x])=rcells P++[.slice (some ⟨x.1,0,none⟩) x.2 x.2]:=by
 unfold rcells
 rw [List.map_append]
 rfl
theorem info_slint:(Tryz.prog.info? 34).map (fun i=>(i.zero,i.size,i.bytes))=some (some (.slice none 0 0),1,24):=by kernel_rfl
def RunAt (w:World) (B:Nat) (V:Nat→Int) (n G m s:Nat):Prop:=∃R,w.ownsRow B 3 1 (.slice (some ⟨G,0,none⟩) m m) m (icells R m)∧RunOf V n m s R
structure Rn (w:World) (B n:Nat) (V:Nat→Int) (rv:Value) (P:List (Nat×Nat)):Prop where
 own:w.ownsRow B 34 1 rv P.length (rcells P)
 run:∀k x,P[k]?=some x→x.2=n / 32+1 - 2^k∧RunAt w B V n x.1 x.2 (2^k)
theorem RunAt.keepB {w w':World} {B n G m s:Nat} {V:Nat→Int} (h:RunAt w B V n G m s) (hb:∀k,B≤k→k < w.heap.size→w'.heap[k]?=w.heap[k]?):RunAt w' B V n G m s:=by
 obtain ⟨R,h1,h2⟩:=h
 exact ⟨R,owns_sameB h1 hb,h2⟩
theorem RunAt.lower {w:World} {B B' n G m s:Nat} {V:Nat→Int} (h:RunAt w B V n G m s) (hB:B'≤B):RunAt w B' V n G m s:=by
 obtain ⟨R,h1,h2⟩:=h
 exact ⟨R,ownsRow_lower h1 hB,h2⟩
theorem Rn.keepB {w w':World} {B n:Nat} {V:Nat→Int} {rv:Value} {P:List (Nat×Nat)} (h:Rn w B n V rv P) (hb:∀k,B≤k→k < w.heap.size→w'.heap[k]?=w.heap[k]?):Rn w' B n V rv P:=
 ⟨owns_sameB h.own hb,fun k x hk=>⟨(h.run k x hk).1,(h.run k x hk).2.keepB hb⟩⟩
section
variable {w w':World} {B g n c:Nat} {A:Option Addr} {V:Nat→Int} {rv:Value} {P:List (Nat×Nat)}
theorem rqWhole_any (h:Tb w B g A n c V rv) (hR:Rn w B n V rv P) (hf:n / 32 < 2^P.length) (x y:Nat) (hxy:x < y) (hy:y≤n / 32):
    Calls Tryz.prog 149 #[.pointer (some ⟨g,0,none⟩),.int .i64 (x:Int),.int .i64 (y:Int)] w fun e w'=>(∃p:Nat,e=.returned (.int .i64 (p:Int))∧FstOf V (x*32) (y*32) p)∧∃k,w'=w.drewN k:=by
 have hfew:=h.few
 obtain ⟨d,hd⟩:∃d,y - x=d:=⟨_,rfl⟩
 have hk1:=Nat.log2_self_le (n:=d) (by omega)
 have hk2:=@Nat.lt_log2_self d
 have hbl:=lblen_any d (by omega) w
 rw [Pl.blen_log d (by omega)] at hbl
 obtain ⟨k,hk⟩:∃k,Nat.log2 d=k:=⟨_,rfl⟩
 rw [hk] at hk1 hk2 hbl
 rw [Nat.pow_succ] at hk2
 have HBl:=Lib.hid hbl
 have hkP:k < P.length:=(Nat.pow_lt_pow_iff_right (a:=2) (by decide)).1 (by omega)
 have hk17:k < 18:=(Nat.pow_lt_pow_iff_right (a:=2) (by decide)).1 (by omega)
 obtain ⟨⟨G,m⟩,hG⟩:∃x,P[k]?=some x:=⟨_,List.getElem?_eq_getElem hkP⟩
 obtain ⟨hm,R,hRo,hRu⟩:=hR.run k _ hG
 dsimp only at hm hRo hRu
 obtain ⟨gr,cr,hrv,_,_⟩:=hR.own.form (by omega)
 subst hrv
 have hcr:=owns_room hR.own
 obtain ⟨s,hs⟩:∃s,2^k=s:=⟨_,rfl⟩
 rw [hs] at hk1 hk2 hm hRu
 have hs0:0 < s:=by rw [←hs];exact Nat.pos_of_ne_zero (by simp)
 obtain ⟨p,hp1,hp2,hp3⟩:=hRu x (by omega)
 obtain ⟨q,hq1,hq2,hq3⟩:=hRu (y - s) (by omega)
 obtain ⟨z,hz⟩:∃z,y - s=z:=⟨_,rfl⟩
 rw [hz] at hq1 hq3
 rw [show z+s=y by omega] at hq3
 have HF:=Lib.hid (hp3.join hq3 (by omega) (by omega) (by omega))
 have c1:∀u,(w.drewN u).cell? ⟨g,1,none⟩=some (.slice (some ⟨gr,0,none⟩) P.length cr):=fun u=>h.c1
 have c2:∀u,(w.drewN u).cell? ⟨gr,k,none⟩=some (.slice (some ⟨G,0,none⟩) m m):=fun u=>(hR.own.cellAt k (by omega)).trans (rcells_at hG)
 have c3:∀u,(w.drewN u).cell? ⟨G,x,none⟩=some (.int .i64 (p:Int)):=fun u=>by
  rw [←hp1]
  exact (hRo.cellAt x (by omega)).trans (icells_at _ _ _ (by omega))
 have c4:∀u,(w.drewN u).cell? ⟨G,z,none⟩=some (.int .i64 (q:Int)):=fun u=>by
  rw [←hq1]
  exact (hRo.cellAt z (by omega)).trans (icells_at _ _ _ (by omega))
 have HL:∀u,Hid (Calls Tryz.prog 150 #[.pointer (some ⟨g,0,none⟩),.int .i64 (p:Int),.int .i64 (q:Int)] (w.drewN u) fun e w'=>e=.returned (.int .i64 ((lesI V p q:Nat):Int))∧∃k,w'=w.drewN k):=fun u=>Lib.hid ((rqLess_any (h.drewN u) p q hp2 hq2).mono fun e w' hh=>by
  obtain ⟨h1,k,h2⟩:=hh
  exact ⟨h1,_,h2.trans (World.drewN_drewN _ _ _)⟩)
 have e1:IntKind.i64.wrap ((y:Int) - (x:Int))=(d:Int):=by rw [IntWalk.i64_in _ (by omega)];omega
 have e2:IntKind.u64.wrap (d:Int)=(d:Int):=IntWalk.u64_in _ (by omega)
 have e3:IntKind.i64.wrap (((k+1:Nat):Int) - 1)=(k:Int):=by rw [IntWalk.i64_in _ (by omega)];omega
 have e4:IntKind.i64.wrap ((y:Int) - (s:Int))=(z:Int):=by rw [IntWalk.i64_in _ (by omega)];omega
 have e5:IntKind.i64.wrap (s:Int)=(s:Int):=IntWalk.i64_in _ (by omega)
 have e6:((2:Int))^k=(s:Int):=by rw [←hs];push_cast;rfl
 have l1:(k:Int) < (P.length:Int):=by omega
 have l2:(x:Int) < (m:Int):=by omega
 have l3:(z:Int) < (m:Int):=by omega
 have l4:¬(k:Int) < 0:=by omega
 have hcm:cr≤9223372036854775807:=by have:=hcr.2;unfold maxLen at this;omega
 have hcl:=hcr.1
 have hmm:m≤9223372036854775807:=by omega
 obtain ⟨r,hr⟩:∃r,lesI V p q=r:=⟨_,rfl⟩
 rw [hr] at HF HL
 obtain ⟨L,hL⟩:∃L,P.length=L:=⟨_,rfl⟩
 rw [hL] at c1 l1 hcl
 clear h hR hf hd hk hk1 hk2 hbl hkP hG hRo hRu hcr hs hp1 hq1 hp3 hq3 hr hL hz hm
 go_enter Tryz.func149,Tryz.ntmps149
 go_wp2_with fail
 refine HBl.out.mono ?_
 rintro e w1 ⟨rfl,rfl⟩
 go_wp2_with fail
 go_quiet ((go_at_call 150;with_reducible exact (HL _).out))
 go_wp2_with fail
 go_ret
 exact ⟨⟨r,rfl,HF.out⟩,_,rfl⟩
theorem rqLen_any (h:Tb w B g A n c V rv):Calls Tryz.prog 147 #[.pointer (some ⟨g,0,none⟩)] w fun e w'=>e=.returned (.int .i64 (n:Int))∧w=w':=by
 have h0:=h.c0
 have hcm:c≤9223372036854775807:=by have:=h.cap.2;unfold maxLen at this;omega
 have hcl:=h.cap.1
 clear h
 go_enter Tryz.func147,Tryz.ntmps147
 go_wp2_with fail
 go_ret
 exact ⟨rfl,rfl⟩
theorem rqLeast_any (h:Tb w B g A n c V rv) (hR:Rn w B n V rv P) (hf:n / 32 < 2^P.length) (x y:Int):
    Calls Tryz.prog 102 #[.pointer (some ⟨g,0,none⟩),.int .i64 x,.int .i64 y] w fun e w'=>e=.returned (.int .i64 (lstR V x y n))∧∃k,w'=w.drewN k:=by
 have hfew:=h.few
 have HT:=fun u=>Lib.hid (h.drewN u)
 have HR:=fun u=>Lib.hid (hR.keepB (w':=w.drewN u) fun _ _ _=>rfl)
 have HFl:=Lib.hid hf
 have HLen:=Lib.hid (rqLen_any h)
 obtain ⟨a,ha⟩:∃a,max x 0=a:=⟨_,rfl⟩
 obtain ⟨b,hb⟩:∃b,min y (n:Int)=b:=⟨_,rfl⟩
 have HA:=Lib.hid ha
 have HB:=Lib.hid hb
 obtain ⟨r,hr⟩:∃r,lstR V x y n=r:=⟨_,rfl⟩
 have HRes:=Lib.hid hr
 rw [hr]
 clear h hR hf ha hb hr
 go_enter Tryz.func102,Tryz.ntmps102
 go_upto_region 1 with (fail)
 go_cut [1,2] (fun s t wx=>s=.int .i64 a∧t=.int .i64 b∧w=wx)
 case first=>
  have ha:=HA.out
  have hb:=HB.out
  by_cases h1:x < 0
  · by_cases h2:y < (n:Int)
    all_goals
     go_wp2_with (go_at_call 147;(with_reducible refine HLen.out.mono ?_);rintro e w' ⟨rfl,rfl⟩)
     go_meet
     exact ⟨by congr 1,by congr 1,rfl⟩
  · by_cases h2:y < (n:Int)
    all_goals
     go_wp2_with (go_at_call 147;(with_reducible refine HLen.out.mono ?_);rintro e w' ⟨rfl,rfl⟩)
     go_meet
     exact ⟨by congr 1,by congr 1,rfl⟩
 case rest=>
 obtain ⟨rfl,rfl,hwc⟩:=hcut
 subst hwc
 clear HLen
 have HLk:∀(z lo hi:Nat),lo < hi→hi≤n→Hid (Calls Tryz.prog 148 #[.pointer (some ⟨g,0,none⟩),.int .i64 (lo:Int),.int .i64 (hi:Int)] (w.drewN z) fun e w'=>(∃p:Nat,e=.returned (.int .i64 (p:Int))∧FstOf V lo hi p)∧∃k,w'=w.drewN k):=fun z lo hi h1 h2=>Lib.hid ((rqLook_any (HT z).out lo hi h1 h2).mono fun e w' hh=>by
  obtain ⟨h1,k,h2⟩:=hh
  exact ⟨h1,_,h2.trans (World.drewN_drewN _ _ _)⟩)
 have HLs:∀(z i j:Nat),i < n→j < n→Hid (Calls Tryz.prog 150 #[.pointer (some ⟨g,0,none⟩),.int .i64 (i:Int),.int .i64 (j:Int)] (w.drewN z) fun e w'=>e=.returned (.int .i64 ((lesI V i j:Nat):Int))∧∃k,w'=w.drewN k):=fun z i j h1 h2=>Lib.hid ((rqLess_any (HT z).out i j h1 h2).mono fun e w' hh=>by
  obtain ⟨h1,k,h2⟩:=hh
  exact ⟨h1,_,h2.trans (World.drewN_drewN _ _ _)⟩)
 have HWh:∀(f t:Nat),f < t→t≤n / 32→Hid (Calls Tryz.prog 149 #[.pointer (some ⟨g,0,none⟩),.int .i64 (f:Int),.int .i64 (t:Int)] w fun e w'=>(∃p:Nat,e=.returned (.int .i64 (p:Int))∧FstOf V (f*32) (t*32) p)∧∃k,w'=w.drewN k):=fun f t h1 h2=>Lib.hid (rqWhole_any (HT 0).out (HR 0).out HFl.out f t h1 h2)
 clear HT HR HFl
 by_cases hba:b≤a
 · have d1:decide (b≤a)=true:=decide_eq_true hba
   have HN:Hid (r= -1):=Lib.hid (by
    rw [←HRes.out]
    exact lstR_none fun j hj g=>by have:=HA.out;have:=HB.out;omega)
   clear HA HB HRes
   go_wp2_with fail
   go_ret
   exact ⟨by rw [HN.out];rfl,0,rfl⟩
 · have ha0:0≤a:=by have:=HA.out;omega
   have hbn:b≤(n:Int):=by have:=HB.out;omega
   have d1:decide (b≤a)=false:=decide_eq_false hba
   obtain ⟨a',rfl⟩:∃a':Nat,a=(a':Int):=⟨a.toNat,by omega⟩
   obtain ⟨b',rfl⟩:∃b':Nat,b=(b':Int):=⟨b.toNat,by omega⟩
   have hbn':b'≤n:=by omega
   have hab:a' < b':=by omega
   have HG:Hid (∀p:Nat,FstOf V a' b' p→r=(p:Int)):=Lib.hid fun p hp=>by
    rw [←HRes.out]
    exact hp.lst hbn' fun j hj=>by have:=HA.out;have:=HB.out;omega
   clear HA HB HRes
   obtain ⟨f,hf⟩:∃f,(a'+31) / 32=f:=⟨_,rfl⟩
   obtain ⟨t,ht⟩:∃t,b' / 32=t:=⟨_,rfl⟩
   have e1:IntKind.i64.wrap ((a':Int)+32)=((a'+32:Nat):Int):=by rw [IntWalk.i64_in _ (by omega)];omega
   have e2:IntKind.i64.wrap (((a'+32:Nat):Int) - 1)=((a'+31:Nat):Int):=by rw [IntWalk.i64_in _ (by omega)];omega
   have e3:((a'+31:Nat):Int).tdiv 32=(f:Int):=by rw [←hf];rfl
   have e4:((b':Nat):Int).tdiv 32=(t:Int):=by rw [←ht];rfl
   have e5:IntKind.i64.wrap (f:Int)=(f:Int):=IntWalk.i64_in _ (by omega)
   have e6:IntKind.i64.wrap (t:Int)=(t:Int):=IntWalk.i64_in _ (by omega)
   obtain ⟨u1,hu1⟩:∃u1,a'+32=u1:=⟨_,rfl⟩
   obtain ⟨u2,hu2⟩:∃u2,a'+31=u2:=⟨_,rfl⟩
   rw [hu1] at e1 e2
   rw [hu2] at e2 e3 hf
   have HU:=Lib.hid (And.intro hu2 (And.intro hf ht))
   clear hu1 hu2 hf ht
   by_cases hft:t≤f
   · have d2:decide ((t:Int)≤(f:Int))=true:=decide_eq_true (by omega)
     have d3:decide (t≤f)=true:=decide_eq_true hft
     have HL:Hid (Calls Tryz.prog 148 #[.pointer (some ⟨g,0,none⟩),.int .i64 (a':Int),.int .i64 (b':Int)] w fun e w'=>(∃p:Nat,e=.returned (.int .i64 (p:Int))∧FstOf V a' b' p)∧∃k,w'=w.drewN k):=HLk 0 a' b' hab hbn'
     go_wp2_with fail
     refine HL.out.mono ?_
     rintro e w1 ⟨⟨p,rfl,hp⟩,k,rfl⟩
     have HP:=Lib.hid hp
     clear hp
     go_wp2_with fail
     go_ret
     exact ⟨by rw [HG.out p HP.out];rfl,k,rfl⟩
   · have d2:decide ((t:Int)≤(f:Int))=false:=decide_eq_false (by omega)
     have d3:decide (t≤f)=false:=decide_eq_false hft
     have hftl:f < t:=by omega
     have hbt:b' / 32=t:=HU.out.2.2
     have haf:(a'+31) / 32=f:=by rw [HU.out.1];exact HU.out.2.1
     have HW:=HWh f t hftl (by omega)
     obtain ⟨f2,hf2⟩:∃f2,f*32=f2:=⟨_,rfl⟩
     obtain ⟨t2,ht2⟩:∃t2,t*32=t2:=⟨_,rfl⟩
     have g1:IntKind.i64.wrap ((f:Int)*32)=(f2:Int):=by rw [IntWalk.i64_in _ (by omega)];omega
     have g2:IntKind.i64.wrap ((t:Int)*32)=(t2:Int):=by rw [IntWalk.i64_in _ (by omega)];omega
     rw [hf2,ht2] at HW
     have haf2:a'≤f2:=by omega
     have htb:t2≤b':=by omega
     have hft2:f2 < t2:=by omega
     have htn:t2≤n:=by omega
     clear hbt haf hf2 ht2 HU HWh
     go_wp2_with fail
     refine HW.out.mono ?_
     rintro e w1 ⟨⟨i,rfl,hi⟩,k,rfl⟩
     have HI:=Lib.hid hi
     clear hi HW
     by_cases haf:a' < f2
     · have HK:=HLk k a' f2 haf (by omega)
       have dA:decide ((a':Int) < (f2:Int))=true:=decide_eq_true (by omega)
       have dA2:(a':Int) < (f2:Int):=by omega
       go_wp2_with fail
       refine HK.out.mono ?_
       rintro e w1 ⟨⟨p,rfl,hp⟩,k2,rfl⟩
       have HM:=HLs k2 p i (by have:=hp.hi;omega) (by have:=HI.out.hi;omega)
       have HJ:=Lib.hid (hp.join HI.out (by omega) (Nat.le_refl _) (by omega))
       obtain ⟨j,hj⟩:∃j,lesI V p i=j:=⟨_,rfl⟩
       rw [hj] at HM HJ
       clear hp hj HK
       go_wp2_with fail
       refine HM.out.mono ?_
       rintro e w1 ⟨rfl,k3,rfl⟩
       clear HM
       by_cases hbt:t2 < b'
       · have HK:=HLk k3 t2 b' hbt hbn'
         have dB:decide ((t2:Int) < (b':Int))=true:=decide_eq_true (by omega)
         have dB2:(t2:Int) < (b':Int):=by omega
         go_wp2_with fail
         refine HK.out.mono ?_
         rintro e w1 ⟨⟨q,rfl,hq⟩,k4,rfl⟩
         have HM:=HLs k4 j q (by have:=HJ.out.hi;omega) (by have:=hq.hi;omega)
         have HE:=Lib.hid (HG.out _ (HJ.out.join hq (by omega) (Nat.le_refl _) (by omega)))
         obtain ⟨j2,hj2⟩:∃j2,lesI V j q=j2:=⟨_,rfl⟩
         rw [hj2] at HM HE
         clear hq hj2 HK
         go_wp2_with fail
         refine HM.out.mono ?_
         rintro e w1 ⟨rfl,k5,rfl⟩
         go_wp2_with fail
         go_ret
         exact ⟨by rw [HE.out];rfl,k5,rfl⟩
       · obtain rfl:t2=b':=by omega
         have dB:decide ((t2:Int) < (t2:Int))=false:=decide_eq_false (by omega)
         have dB2:¬(t2:Int) < (t2:Int):=by omega
         have HE:=Lib.hid (HG.out _ HJ.out)
         go_wp2_with fail
         go_ret
         exact ⟨by rw [HE.out];rfl,k3,rfl⟩
     · obtain rfl:a'=f2:=by omega
       have dA:decide ((a':Int) < (a':Int))=false:=decide_eq_false (by omega)
       have dA2:¬(a':Int) < (a':Int):=by omega
       by_cases hbt:t2 < b'
       · have HK:=HLk k t2 b' hbt hbn'
         have dB:decide ((t2:Int) < (b':Int))=true:=decide_eq_true (by omega)
         have dB2:(t2:Int) < (b':Int):=by omega
         go_wp2_with fail
         refine HK.out.mono ?_
         rintro e w1 ⟨⟨q,rfl,hq⟩,k4,rfl⟩
         have HM:=HLs k4 i q (by have:=HI.out.hi;omega) (by have:=hq.hi;omega)
         have HE:=Lib.hid (HG.out _ (HI.out.join hq (by omega) (Nat.le_refl _) (by omega)))
         obtain ⟨j2,hj2⟩:∃j2,lesI V i q=j2:=⟨_,rfl⟩
         rw [hj2] at HM HE
         clear hq hj2 HK
         go_wp2_with fail
         refine HM.out.mono ?_
         rintro e w1 ⟨rfl,k5,rfl⟩
         go_wp2_with fail
         go_ret
         exact ⟨by rw [HE.out];rfl,k5,rfl⟩
       · obtain rfl:t2=b':=by omega
         have dB:decide ((t2:Int) < (t2:Int))=false:=decide_eq_false (by omega)
         have dB2:¬(t2:Int) < (t2:Int):=by omega
         have HE:=Lib.hid (HG.out _ HI.out)
         go_wp2_with fail
         go_ret
         exact ⟨by rw [HE.out];rfl,k,rfl⟩
end
theorem rq_apart {w:World} {B T n k:Nat} {t t':TypeId} {v v':Value} {cs ds:List Value} (h:w.ownsRow B t 1 v n cs) (h':w.ownsRow T t' 1 v' k ds) (ht:t≠t'):v.ownBlock=none∨v.ownBlock≠v'.ownBlock:=by
 rcases h.2 with ⟨rfl,_⟩ | ⟨g,cap,cur,rfl,_,hg,_⟩
 · exact .inl rfl
 · refine .inr fun e=>?_
   rcases h'.2 with ⟨rfl,_⟩ | ⟨g',cap',cur',rfl,_,hg',_⟩
   · cases e
   · have e:some g=some g':=e
     cases e
     rw [hg] at hg'
     simp at hg'
     exact ht hg'.2
theorem rq_apartL {w:World} {B n g:Nat} {t t':TypeId} {v:Value} {cs cs':List Value} (h:w.ownsRow B t 1 v n cs) (hl:Lies w g t' cs') (ht:t≠t'):v.ownBlock≠some g:=by
 intro e
 rcases h.2 with ⟨rfl,_⟩ | ⟨g',cap,cur,rfl,_,hg,_⟩
 · cases e
 · have e:some g'=some g:=e
   cases e
   unfold Lies at hl
   rw [hl] at hg
   simp at hg
   exact ht hg.2.symm
structure RqIn (w wr:World) (g:Nat) (A:Option Addr) (n c:Nat) (V:Nat→Int) (rv:Value) (P:List (Nat×Nat)) (G m k:Nat):Prop where
 tb:Tb wr w.heap.size g A n c V rv
 rn:Rn wr (g+1) n V rv P
 cur:RunAt wr (g+1) V n G m (2^k)
 len:P.length=k
 m:m=n / 32+1 - 2^k
 below:Below w.heap.size w wr
section
variable {w wr w2:World} {g n c G m k:Nat} {A:Option Addr} {V:Nat→Int} {rv:Value} {P:List (Nat×Nat)}
theorem RunAt.far {B n G m s g' k':Nat} {t':TypeId} {V:Nat→Int} {cs':List Value} (h:RunAt w B V n G m s) (hl:Lies w g' t' cs') (ht:3≠t') (u:Value):RunAt (w.setCell ⟨g',k',none⟩ u) B V n G m s:=by
 obtain ⟨R,h1,h2⟩:=h
 exact ⟨R,owns_far h1 (a:=⟨g',k',none⟩) (rq_apartL h1 hl ht) u,h2⟩
theorem RunAt.grownR {B T n G m s q:Nat} {V:Nat→Int} {v:Value} {ds:List Value} (h:RunAt w B V n G m s) (hv:w.ownsRow T 34 1 v q ds) (hg:w.grownBy w2 v.ownBlock):RunAt w2 B V n G m s:=by
 obtain ⟨R,h1,h2⟩:=h
 exact ⟨R,h1.kept hg (rq_apart h1 hv (by decide)),h2⟩
theorem RqIn.snoc {gg cap:Nat} (h:RqIn w wr g A n c V rv P G m k)
    (hown:w2.ownsRow (g+1) 34 1 (.slice (some ⟨gg,0,none⟩) (k+1) cap) (k+1) (rcells P++[.slice (some ⟨G,0,none⟩) m m])) (hgrow:(wr.alloc (.cells #[.slice (some ⟨G,0,none⟩) m m] 34)).grownBy w2 rv.ownBlock):
    ∀w3,w3=w2.setCell ⟨g,1,none⟩ (.slice (some ⟨gg,0,none⟩) (k+1) cap)→Tb w3 w.heap.size g A n c V (.slice (some ⟨gg,0,none⟩) (k+1) cap)∧Rn w3 (g+1) n V (.slice (some ⟨gg,0,none⟩) (k+1) cap) (P++[(G,m)])∧RunAt w3 (g+1) V n G m (2^k)∧Below w.heap.size w w3:=by
 rintro w3 rfl
 have ha:wr.grownBy w2 rv.ownBlock:=grownBy_trans (World.grownBy_alloc wr _ _) hgrow
 have hlv:∀x,rv.ownBlock=some x→g+1≤x:=fun x hx=>(h.rn.own.lt x hx).1
 have h1:=h.tb.head.grown ha (fun e=>by have:=hlv g e.symm;omega)
 have hrow:=h.tb.row.kept ha (rq_apart h.tb.row h.rn.own (by decide))
 have hcur:=(h.cur.grownR h.rn.own ha).far (k':=1) h1 (by decide) (.slice (some ⟨gg,0,none⟩) (k+1) cap)
 refine ⟨⟨h1.put 1 _,owns_far hrow (a:=⟨g,1,none⟩) (rq_apartL hrow h1 (by decide)) _,h.tb.lo,h.tb.room,h.tb.few⟩,⟨?_,fun q x hq=>?_⟩,hcur,?_⟩
 · rw [rcells_snoc,List.length_append,h.len]
   exact owns_far hown (a:=⟨g,1,none⟩) (rq_apartL hown h1 (by decide)) _
 · by_cases hqk:q < k
   · rw [List.getElem?_append_left (by rw [h.len];exact hqk)] at hq
     obtain ⟨e1,e2⟩:=h.rn.run q x hq
     exact ⟨e1,(e2.grownR h.rn.own ha).far h1 (by decide) _⟩
   · have hl:=(List.getElem?_eq_some_iff.1 hq).1
     rw [List.length_append,h.len] at hl
     have hqe:q=k:=by
      have:([(G,m)]:List (Nat×Nat)).length=1:=rfl
      omega
     subst hqe
     rw [List.getElem?_append_right (by rw [h.len];omega),h.len,Nat.sub_self] at hq
     cases hq
     exact ⟨h.m,hcur⟩
 · exact (h.below.grown ha h.below.size (fun x hx=>by have:=hlv x hx;have:=h.tb.lo;omega)).setCell (p:=⟨g,1,none⟩) h.tb.lo _
theorem rqNew_any (A0:Option Addr) (n c0:Nat) (V:Nat→Int) (w:World) (hn:n≤4194303) (ho:ItsR w A0 n c0 V):
    Calls Tryz.prog 91 #[.slice A0 n c0] w fun e w'=>(∃(g:Nat) (A:Option Addr) (c:Nat) (rv:Value) (P:List (Nat×Nat)),e=.returned (.tuple #[.pointer (some ⟨g,0,none⟩),.int .i64 0])∧Tb w' w.heap.size g A n c V rv∧Rn w' w.heap.size n V rv P∧n / 32 < 2^P.length)∧Below w.heap.size w w':=by
 obtain ⟨lo,hlo⟩:∃lo,w.heap.size=lo:=⟨_,rfl⟩
 have hroom:=ho.2.2.2.small
 have hcm0:c0≤9223372036854775807:=by have:=ho.2.2.1;unfold maxLen at this;omega
 have hcl0:=ho.2.1
 have HCl:=Lib.hid (wvClone_any A0 n c0 V w (by omega) ho)
 have HRm:=Lib.hid hroom
 have g0:decide ((4194304:Int) < (n:Int))=false:=decide_eq_false (by omega)
 have g1:decide (4194304 < n)=false:=decide_eq_false (by omega)
 obtain ⟨i0,hi0,hz0,hs0,hb0⟩:=info_parts info_slint
 have HLo:=Lib.hid hlo
 clear ho hroom
 go_enter Tryz.func91,Tryz.ntmps91
 go_wp2_with fail
 refine HCl.out.mono ?_
 rintro e w1 ⟨v,rfl,hrow,hb1⟩
 obtain ⟨A,c,rfl,hI⟩:=ItsR.of_own hrow HRm.out
 obtain ⟨g,hg⟩:∃g,w1.heap.size=g:=⟨_,rfl⟩
 have hb1s:=hb1.size
 obtain ⟨wb,hwb⟩:∃wb,w1.alloc (.cells #[.slice A n c,.slice none 0 0] 186)=wb:=⟨_,rfl⟩
 have zb:wb.heap.size=g+1:=by rw [←hwb,size_alloc,hg]
 have lb:Lies wb g 186 [.slice A n c,.slice none 0 0]:=by rw [←hwb,←hg];exact lies_new w1 _ _
 have kb:Below w1.heap.size w1 wb:=by rw [←hwb];exact (Below.refl _ _).alloc (Nat.le_refl _) _
 have HT0:Hid (Tb wb w.heap.size g A n c V (.slice none 0 0)):=Lib.hid ⟨lb,ownsRow_keep hrow kb,by omega,HRm.out,hn⟩
 have HB0:Hid (Below w.heap.size w wb):=Lib.hid (hb1.trans (kb.mono hb1s))
 have HS:=Lib.hid (rqSingle_any HT0.out)
 clear hrow hb1 hI lb kb
 go_wp2_with fail
 refine HS.out.mono ?_
 rintro e w2 ⟨⟨G0,R0,rfl,hrow2,hrun2⟩,hb2⟩
 have hb2s:=hb2.size
 rw [zb] at hrow2
 have H0:Hid (RqIn w w2 g A n c V (.slice none 0 0) [] G0 (n / 32) 0):=Lib.hid ⟨HT0.out.keep hb2,⟨World.ownsRow_nil _ _ _ _,fun k x hk=>by simp at hk⟩,⟨R0,hrow2,hrun2⟩,rfl,by simp,HB0.out.trans (hb2.mono HB0.out.size)⟩
 have hlog:lo≤g:=by omega
 clear hrow2 hrun2 hb2 HS HT0 HB0 hwb HCl hlo zb hb2s hb1s
 obtain ⟨m0,hm0⟩:∃m0,n / 32=m0:=⟨_,rfl⟩
 rw [hm0] at H0 ⊢
 have HM0:=Lib.hid hm0
 clear hm0
 go_wp2_with fail
 go_loopw [5,6] (fun u v wr=>∃(k m G:Nat) (rv:Value) (P:List (Nat×Nat)),u=.slice (some ⟨G,0,none⟩) m m∧v=.int .i64 (k:Int)∧Hid (RqIn w wr g A n c V rv P G m k)) (fun u _ _=>(match u with | .slice _ q _=>q | _=>0))
 case atStart=>exact ⟨0,m0,G0,_,[],rfl,rfl,H0⟩
 case round=>
  clear H0
  obtain ⟨k,m,G,rv,P,rfl,rfl,H⟩:=hrel
  by_cases h0:m=0
  · subst h0
    have HF:Hid (m0 < 2^P.length):=Lib.hid (by
     have h1:=H.out.m
     rw [HM0.out] at h1
     rw [H.out.len]
     omega)
    go_wp2_with fail
    go_ret2
    exact ⟨⟨g,A,c,rv,P,rfl,H.out.tb,⟨ownsRow_lower H.out.rn.own (by rw [HLo.out];omega),fun q x hq=>⟨(H.out.rn.run q x hq).1,(H.out.rn.run q x hq).2.lower (by rw [HLo.out];omega)⟩⟩,by rw [HM0.out];exact HF.out⟩,H.out.below⟩
  · have hm:=H.out.m
    have hk17:k < 18:=(Nat.pow_lt_pow_iff_right (a:=2) (by decide)).1 (by omega)
    obtain ⟨s,hs⟩:∃s,2^k=s:=⟨_,rfl⟩
    have hsp:0 < s:=by rw [←hs];exact Nat.two_pow_pos k
    have hm17:m≤131072:=by rw [hs] at hm;omega
    have hs18:s≤262144:=by rw [←hs];exact Nat.pow_le_pow_right (by decide) (show k≤18 by omega)
    have e1:((2:Int))^k=(s:Int):=by rw [←hs];push_cast;rfl
    have e2:IntKind.i64.wrap (s:Int)=(s:Int):=IntWalk.i64_in _ (by omega)
    have l4:¬(k:Int) < 0:=by omega
    have l5:(0:Int) < (m:Int):=by omega
    have l6:0 < m:=by omega
    have c1:=H.out.tb.c1
    have hle:=H.out.len
    have hgw:=H.out.tb.head.lt
    have hs2:m0+1 - 2^k - s=m0+1 - 2^(k+1):=by rw [←hs,Nat.pow_succ];omega
    have hs3:s+s=2^(k+1):=by rw [←hs,Nat.pow_succ];omega
    have hmm0:m=m0+1 - 2^k:=by rw [hm,HM0.out]
    have HS:=Lib.hid (And.intro hs (And.intro hs2 (And.intro hs3 hmm0)))
    clear hs hs2 hs3 hmm0 hm
    go_wp2_with (at_builtin;refine wpList_append_lies _ rfl (.tmp 25) (.tmp 27) 184 rfl (g+1) 34 i0 _ 1 24 Tryz.underlying184 hi0 hz0 hs0 hb0 rfl (by decide) rv k (rcells P) rfl (by rw [←hle];exact H.out.rn.own.alloc _) ⟨wr.heap.size,0,none⟩ 1 1 [.slice (some ⟨G,0,none⟩) m m] rfl rfl (World.news_of_block (cs:=#[.slice (some ⟨G,0,none⟩) m m]) (t:=34) (fr:=(0,0)) (heap_alloc_new wr _)) (by simp [Value.oneCell']) (by decide) (by unfold maxLen;omega) (by omega) (by rw [size_alloc];omega) (wr.heap.size+1) (by rw [size_alloc]) ?_;intro gg cap w5 hown5 hgrow5 hat5 hlt5;have hga:=grownBy_trans (World.grownBy_alloc wr _ _) hgrow5;have hd5:=H.out.tb.head.grown hga (fun e=>by have:=(H.out.rn.own.lt g e.symm).1;omega);have hcx:w5.cell? ⟨g,1,none⟩=some rv:=hd5.cell 1;have hfz:=hd5.free 1;have HBk:=Lib.hid (H.out.snoc hown5 hgrow5 _ rfl);clear hown5 hgrow5 hat5 hlt5 hga)
    obtain ⟨w3,hw3⟩:∃w3,w5.setCell ⟨g,1,none⟩ (.slice (some ⟨gg,0,none⟩) (k+1) cap)=w3:=⟨_,rfl⟩
    rw [hw3] at HBk ⊢
    clear hw3 hd5 hcx hfz c1
    have HTw:Hid (Calls Tryz.prog 136 #[.pointer (some ⟨g,0,none⟩),.slice (some ⟨G,0,none⟩) m m,.int .i64 (s:Int)] w3 (RunPost w3 V n (m - s) (s+s))):=Lib.hid (by
     obtain ⟨R,hR1,hR2⟩:=HBk.out.2.2.1
     rw [HS.out.1] at hR2
     exact rqTwice_any HBk.out.1 (g+1) G m s R hm17 hs18 hR1 hR2)
    refine HTw.out.mono ?_
    rintro e w4 ⟨⟨G',R',rfl,hrow4,hrun4⟩,hb4⟩
    obtain ⟨m',hm'⟩:∃m',m - s=m':=⟨_,rfl⟩
    rw [hm'] at hrow4 hrun4 ⊢
    have HN:Hid (RqIn w w4 g A n c V (.slice (some ⟨gg,0,none⟩) (k+1) cap) (P++[(G,m)]) G' m' (k+1)):=Lib.hid (by
     obtain ⟨q1,q2,q3,q4⟩:=HS.out
     have hlt:=HBk.out.1.head.lt
     exact ⟨HBk.out.1.keep hb4,HBk.out.2.1.keepB fun x _ hx=>hb4.block x hx,⟨R',ownsRow_lower hrow4 hlt,by rw [←q3];exact hrun4⟩,by rw [List.length_append,hle];rfl,by rw [HM0.out,←hm',q4];exact q2,HBk.out.2.2.2.trans (hb4.mono HBk.out.2.2.2.size)⟩)
    have hms:m' < m:=by omega
    clear hrow4 hrun4 hb4 HTw HBk HS hm'
    go_wp2_with fail
    go_roundw
    case rel=>exact ⟨k+1,m',G',_,_,rfl,by go_num,HN⟩
    case measure=>exact hms
end
def RmqAt (B:Nat) (w:World) (v:Value) (n:Nat) (V:Nat→Int):Prop:=∃(g:Nat) (A:Option Addr) (c:Nat) (rv:Value) (P:List (Nat×Nat)),v=.pointer (some ⟨g,0,none⟩)∧Tb w B g A n c V rv∧Rn w B n V rv P∧n / 32 < 2^P.length
theorem rmq_any:RmqI RmqAt where
 keep_:=fun {B w w' v n V} h _ hb=>by
  obtain ⟨g,A,c,rv,P,h1,h2,h3,h4⟩:=h
  exact ⟨g,A,c,rv,P,h1,h2.keepB hb,h3.keepB hb,h4⟩
 ptr:=fun {B w v n V} h=>by
  obtain ⟨g,A,c,rv,P,h1,_⟩:=h
  exact ⟨_,h1⟩
 new:=fun A n c V w hn ho=>(rqNew_any A n c V w hn ho).mono fun e w' h=>by
  obtain ⟨⟨g,A,c,rv,P,h1,h2,h3,h4⟩,hb⟩:=h
  exact ⟨⟨_,h1,g,A,c,rv,P,rfl,h2,h3,h4⟩,hb⟩
 len_:=fun B v n V w h=>by
  obtain ⟨g,A,c,rv,P,rfl,h2,h3,h4⟩:=h
  exact (rqLen_any h2).mono fun e w' h=>⟨h.1,h.2▸Below.refl _ _⟩
 least:=fun B v n V a b w _ _ h=>by
  obtain ⟨g,A,c,rv,P,rfl,h2,h3,h4⟩:=h
  exact (rqLeast_any h2 h3 h4 a b).mono fun e w' h=>by
   obtain ⟨h1,k,rfl⟩:=h
   exact ⟨h1,below_drewN' (Below.refl _ _) k⟩
end Go.Proofs.YtcidobpbepeakaaGreat
