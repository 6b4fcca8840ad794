/- Texts of ours, joined: RmqDev. -/
import Derived.Test.YtcidobpbepeakaaGreatB15
import Derived.Test.YtcidobpbepeakaaGreatB06
import Derived.Deep.AppendLies
import Derived.Deep.DrawnRows
import Derived.Deep.DeepAppendRoom
set_option maxRecDepth 1000000
set_option maxHeartbeats 6400000
namespace Go.Proofs.YtcidobpbepeakaaGreat
open Go.RowKit
structure FstOf (V:Nat→Int) (a b p:Nat):Prop where
 lo:a≤p
 hi:p < b
 le:∀j,a≤j→j < b→V p≤V j
 first:∀j,a≤j→j < p→V p < V j
theorem FstOf.one (V:Nat→Int) (a:Nat):FstOf V a (a+1) a:=
 ⟨Nat.le_refl _,Nat.lt_succ_self _,fun j h1 h2=>by rw [show j=a by omega];exact Int.le_refl _,fun j h1 h2=>by omega⟩
def lesI (V:Nat→Int) (i j:Nat):Nat:=if V j < V i then j else i
theorem FstOf.join {V:Nat→Int} {a b c d p q:Nat} (hp:FstOf V a b p) (hq:FstOf V c d q) (h1:a≤c) (h2:c≤b) (h3:b≤d):FstOf V a d (lesI V p q):=by
 have p1:=hp.lo
 have p2:=hp.hi
 have q1:=hq.lo
 have q2:=hq.hi
 unfold lesI
 by_cases e:V q < V p
 · rw [if_pos e]
   refine ⟨by omega,q2,fun j g1 g2=>?_,fun j g1 g2=>?_⟩
   · by_cases hj:j < b
     · have:=hp.le j g1 hj
       omega
     · exact hq.le j (by omega) g2
   · by_cases hj:j < b
     · have:=hp.le j g1 hj
       omega
     · exact hq.first j (by omega) g2
 · rw [if_neg e]
   refine ⟨p1,by omega,fun j g1 g2=>?_,hp.first⟩
   by_cases hj:j < b
   · exact hp.le j g1 hj
   · have:=hq.le j (by omega) g2
     omega
theorem FstOf.lst {V:Nat→Int} {x y:Int} {n a b p:Nat} (h:FstOf V a b p) (hb:b≤n) (hx:∀j:Nat,j < n→(x≤(j:Int)∧(j:Int) < y↔a≤j∧j < b)):lstR V x y n=(p:Int):=by
 have p1:=h.lo
 have p2:=h.hi
 have h0:=(hx p (by omega)).2 ⟨p1,p2⟩
 exact lstR_at ⟨by omega,h0.1,h0.2,fun j hj g1 g2=>by
  have:=(hx j hj).1 ⟨g1,g2⟩
  exact h.le j this.1 this.2,fun j hj g1 g2=>by
  have:=(hx j (by omega)).1 ⟨g1,g2⟩
  exact h.first j this.1 hj⟩
theorem lesI_lt {V:Nat→Int} {i j n:Nat} (hi:i < n) (hj:j < n):lesI V i j < n:=by unfold lesI;split <;> assumption
structure Tb (w:World) (B g:Nat) (A:Option Addr) (n c:Nat) (V:Nat→Int) (rv:Value):Prop where
 head:Lies w g 186 [.slice A n c,rv]
 row:w.ownsRow B 3 1 (.slice A n c) n (icells V n)
 lo:B≤g
 room:∀i,i < n→ -9223372036854775808≤V i∧V i≤9223372036854775807
 few:n≤4194303
theorem owns_sameB {w w':World} {B n:Nat} {t:TypeId} {v:Value} {cs:List Value} (h:w.ownsRow B t 1 v n cs) (hb:∀k,B≤k→k < w.heap.size→w'.heap[k]?=w.heap[k]?):w'.ownsRow B t 1 v n cs:=by
 refine ⟨h.1,?_⟩
 rcases h.2 with h0 | ⟨g,cap,cur,e,h1,h2,h3⟩
 · exact .inl h0
 · exact .inr ⟨g,cap,cur,e,h1,(hb g h1 (Array.getElem?_eq_some_iff.1 h2).1).trans h2,h3⟩
section
variable {w w':World} {B g n c:Nat} {A:Option Addr} {V:Nat→Int} {rv:Value}
theorem Tb.keepB (h:Tb w B g A n c V rv) (hb:∀k,B≤k→k < w.heap.size→w'.heap[k]?=w.heap[k]?):Tb w' B g A n c V rv:=
 ⟨h.head.same (hb g h.lo h.head.lt),owns_sameB h.row hb,h.lo,h.room,h.few⟩
theorem Tb.keep (h:Tb w B g A n c V rv) (hb:Below w.heap.size w w'):Tb w' B g A n c V rv:=h.keepB fun k _ hk=>hb.block k hk
theorem Tb.drewN (h:Tb w B g A n c V rv) (k:Nat):Tb (w.drewN k) B g A n c V rv:=h.keepB fun _ _ _=>rfl
theorem Tb.c0 (h:Tb w B g A n c V rv):w.cell? ⟨g,0,none⟩=some (.slice A n c):=h.head.cell 0
theorem Tb.c1 (h:Tb w B g A n c V rv):w.cell? ⟨g,1,none⟩=some rv:=h.head.cell 1
theorem Tb.its (h:Tb w B g A n c V rv):Its w w.heap.size A n V:=by
 obtain ⟨A',c',e,hI⟩:=Its.of_own h.row h.room
 injection e with e1 e2 e3
 subst e1
 exact hI
theorem Tb.cap (h:Tb w B g A n c V rv):n≤c∧c≤maxLen:=owns_room h.row
theorem rqLess_any (h:Tb w B g A n c V rv) (i j:Nat) (hi:i < n) (hj:j < n):
    Calls Tryz.prog 150 #[.pointer (some ⟨g,0,none⟩),.int .i64 (i:Int),.int .i64 (j:Int)] w fun e w'=>e=.returned (.int .i64 ((lesI V i j:Nat):Int))∧∃k,w'=w.drewN k:=by
 have hc0:∀z,(w.drewN z).cell? ⟨g,0,none⟩=some (.slice A n c):=fun z=>(h.drewN z).c0
 obtain ⟨ad,rfl,_,ci,_⟩:=h.its i hi
 obtain ⟨ad',e,_,cj,_⟩:=h.its j hj
 cases e
 have hci:∀z,(w.drewN z).cell? (ad.add i)=some (.int .i64 (V i)):=fun z=>ci
 have hcj:∀z,(w.drewN z).cell? (ad.add j)=some (.int .i64 (V j)):=fun z=>cj
 have hcm:c≤9223372036854775807:=by have:=h.cap.2;unfold maxLen at this;omega
 have l1:(i:Int) < (n:Int):=by omega
 have l2:(j:Int) < (n:Int):=by omega
 by_cases hv:V j < V i
 · have d1:decide (V j < V i)=true:=decide_eq_true hv
   have HR:Hid (lesI V i j=j):=Lib.hid (if_pos hv)
   generalize V i=v1 at*
   generalize V j=v2 at*
   clear h ci cj
   go_enter Tryz.func150,Tryz.ntmps150
   go_wp2_with fail
   go_quiet (fail)
   go_wp2_with fail
   go_ret
   exact ⟨by rw [HR.out];rfl,_,rfl⟩
 · have d1:decide (V j < V i)=false:=decide_eq_false hv
   have HR:Hid (lesI V i j=i):=Lib.hid (if_neg hv)
   generalize V i=v1 at*
   generalize V j=v2 at*
   clear h ci cj
   go_enter Tryz.func150,Tryz.ntmps150
   go_wp2_with fail
   go_quiet (fail)
   go_wp2_with fail
   go_ret
   exact ⟨by rw [HR.out];rfl,_,rfl⟩
theorem rqLook_any (h:Tb w B g A n c V rv) (a b:Nat) (hab:a < b) (hb:b≤n):
    Calls Tryz.prog 148 #[.pointer (some ⟨g,0,none⟩),.int .i64 (a:Int),.int .i64 (b:Int)] w fun e w'=>(∃p:Nat,e=.returned (.int .i64 (p:Int))∧FstOf V a b p)∧∃k,w'=w.drewN k:=by
 have HH:=Lib.hid h
 have hfew:=h.few
 clear h
 go_enter Tryz.func148,Tryz.ntmps148
 go_wp2_with fail
 go_loopw [7,8] (fun u v wr=>∃(i p:Nat),a < i∧i≤b∧u=.int .i64 (p:Int)∧v=.int .i64 (i:Int)∧Hid (FstOf V a i p)∧∃k,wr=w.drewN k) (fun _ v _=>b - (intOf v).toNat)
 case atStart=>exact ⟨a+1,a,by omega,by omega,rfl,by go_num,Lib.hid (FstOf.one V a),0,rfl⟩
 case round=>
  obtain ⟨i,p,hi,hib,rfl,rfl,hF,z,rfl⟩:=hrel
  by_cases hlt:i < b
  · have hlti:(i:Int) < (b:Int):=by omega
    have hp:=hF.out.hi
    have HL:=Lib.hid (rqLess_any (HH.out.drewN z) p i (by omega) (by omega))
    have HN:=Lib.hid (hF.out.join (FstOf.one V i) (by omega) (Nat.le_refl _) (by omega))
    obtain ⟨q,hq⟩:∃q,lesI V p i=q:=⟨_,rfl⟩
    rw [hq] at HL HN
    clear hq hp hF
    go_wp2_with fail
    refine HL.out.mono ?_
    rintro e w1 ⟨rfl,k,rfl⟩
    go_wp2_with fail
    go_roundw
    case rel=>exact ⟨i+1,q,by omega,by omega,rfl,by go_num,HN,_,rfl⟩
    case measure=>simp [intOf];omega
  · obtain rfl:i=b:=by omega
    have hge:¬(i:Int) < (i:Int):=by omega
    go_wp2_with fail
    go_ret
    exact ⟨⟨p,rfl,hF.out⟩,z,rfl⟩
def RunOf (V:Nat→Int) (n m s:Nat) (R:Nat→Int):Prop:=∀f,f < m→∃p:Nat,R f=(p:Int)∧p < n∧FstOf V (f*32) ((f+s)*32) p
def RunPost (w:World) (V:Nat→Int) (n m s:Nat) (e:Ending) (w':World):Prop:=
 (∃(G:Nat) (R:Nat→Int),e=.returned (.slice (some ⟨G,0,none⟩) m m)∧w'.ownsRow w.heap.size 3 1 (.slice (some ⟨G,0,none⟩) m m) m (icells R m)∧RunOf V n m s R)∧Below w.heap.size w w'
theorem RunOf.put {V:Nat→Int} {n i s p:Nat} {R:Nat→Int} (h:RunOf V n i s R) (hp:p < n) (hf:FstOf V (i*32) ((i+s)*32) p):RunOf V n (i+1) s (fun j=>if j=i then (p:Int) else R j):=fun f hf'=>by
 by_cases e:f=i
 · subst e
   exact ⟨p,if_pos rfl,hp,hf⟩
 · obtain ⟨q,h1,h2⟩:=h f (by omega)
   exact ⟨q,(if_neg e).trans h1,h2⟩
theorem rq_fresh (w:World) (m:Nat) (hm:m≤4194304):∃wa,w.alloc (.cells (icells (fun _=>0) m).toArray 3)=wa∧Hid (wa.ownsRow w.heap.size 3 1 (.slice (some ⟨w.heap.size,0,none⟩) m m) m (icells (fun _=>0) m))∧Hid (Below w.heap.size w wa):=
 ⟨_,rfl,Lib.hid (owns_lies (lies_new w _ _) (Nat.le_refl _) (icells_length _ _) (by unfold maxLen;omega)),Lib.hid ((Below.refl _ _).alloc (Nat.le_refl _) _)⟩
theorem rqSingle_any (h:Tb w B g A n c V rv):
    Calls Tryz.prog 135 #[.pointer (some ⟨g,0,none⟩)] w (RunPost w V n (n / 32) 1):=by
 have HH:=Lib.hid h
 have hfew:=h.few
 have hc0:=h.c0
 have hcm:c≤9223372036854775807:=by have:=h.cap.2;unfold maxLen at this;omega
 have hcl:=h.cap.1
 clear h
 obtain ⟨m,hm⟩:∃m,n / 32=m:=⟨_,rfl⟩
 have hMk:=make_ints0 w m (by omega)
 obtain ⟨wa,hwa,HR0,HB0⟩:=rq_fresh w m (by omega)
 rw [hwa] at hMk
 have hq:((n:Int)).tdiv 32=(m:Int):=by rw [←hm];rfl
 have hq2:IntKind.i64.wrap (m:Int)=(m:Int):=IntWalk.i64_in _ (by omega)
 obtain ⟨lo,hlo⟩:∃lo,w.heap.size=lo:=⟨_,rfl⟩
 have HLo:=Lib.hid hlo
 rw [hm]
 rw [hlo] at hMk HR0 HB0
 clear hwa hlo
 have HM:=Lib.hid hm
 clear hm
 go_enter Tryz.func135,Tryz.ntmps135
 go_wp2_with fail
 go_loopw [14] (fun v wr=>∃(i:Nat) (R:Nat→Int),i≤m∧v=.int .i64 (i:Int)∧Hid (wr.ownsRow lo 3 1 (.slice (some ⟨lo,0,none⟩) m m) m (icells R m))∧Hid (RunOf V n i 1 R)∧Hid (Below lo w wr)) (fun v _=>m - (intOf v).toNat)
 case atStart=>exact ⟨0,_,Nat.zero_le _,rfl,HR0,Lib.hid fun f hf=>absurd hf (Nat.not_lt_zero f),HB0⟩
 case round=>
  clear HR0 HB0 hMk
  obtain ⟨i,R,hi,rfl,hR,hRun,hB⟩:=hrel
  by_cases hlt:i < m
  · have hlti:(i:Int) < (m:Int):=by omega
    have hfm:=HM.out
    have HT:=Lib.hid (HH.out.keep (w':=wr) (by rw [HLo.out];exact hB.out))
    have HL:=Lib.hid (rqLook_any HT.out (i*32) ((i+1)*32) (by omega) (by omega))
    have e1:IntKind.i64.wrap ((i:Int)*32)=((i*32:Nat):Int):=by rw [IntWalk.i64_in _ (by omega)];omega
    have e2:IntKind.i64.wrap ((i:Int)+1)=((i+1:Nat):Int):=by rw [IntWalk.i64_in _ (by omega)];omega
    have e3:IntKind.i64.wrap (((i+1:Nat):Int)*32)=(((i+1)*32:Nat):Int):=by rw [IntWalk.i64_in _ (by omega)];omega
    obtain ⟨m1,hm1⟩:∃m1,i+1=m1:=⟨_,rfl⟩
    obtain ⟨x1,hx1⟩:∃x1,i*32=x1:=⟨_,rfl⟩
    rw [hm1] at e2 e3 HL
    obtain ⟨x2,hx2⟩:∃x2,m1*32=x2:=⟨_,rfl⟩
    rw [hx1] at e1 HL
    rw [hx2] at e3 HL
    have HX:=Lib.hid (And.intro hx1 (And.intro hx2 hm1))
    clear hx1 hx2 hm1
    have hfz:∀z,(wr.drewN z).frozen? ⟨lo,i,none⟩=false:=fun z=>owns_free (owns_sameB (w':=wr.drewN z) hR.out fun _ _ _=>rfl) i
    have hcell:∀z,(wr.drewN z).cell? ⟨lo,i,none⟩=some (.int .i64 (R i)):=fun z=>(hR.out.cellAt i (by omega)).trans (icells_at _ _ _ hlt)
    generalize hu:R i=u at hcell
    clear hu
    go_wp2_with (go_at_call 148;(with_reducible refine HL.out.mono ?_);rintro e w1 ⟨⟨p,rfl,hF⟩,k,rfl⟩;have hz1:=hfz k;have hc1:=hcell k;have HF:=Lib.hid hF;clear hF)
    have HR2:Hid (((wr.drewN k).setCell ⟨lo,i,none⟩ (.int .i64 (p:Int))).ownsRow lo 3 1 (.slice (some ⟨lo,0,none⟩) m m) m (icells (fun j=>if j=i then (p:Int) else R j) m)):=Lib.hid (by
     have:=owns_put (owns_sameB (w':=wr.drewN k) hR.out fun _ _ _=>rfl) i (.int .i64 (p:Int))
     rw [icells_put] at this
     exact this)
    have HB2:Hid (Below lo w ((wr.drewN k).setCell ⟨lo,i,none⟩ (.int .i64 (p:Int)))):=Lib.hid ((below_drewN' hB.out k).setCell (p:=⟨lo,i,none⟩) (Nat.le_refl _) _)
    have HRun2:Hid (RunOf V n m1 1 (fun j=>if j=i then (p:Int) else R j)):=Lib.hid (by
     obtain ⟨g1,g2,g3⟩:=HX.out
     have h1:=HF.out
     have h2:=h1.hi
     rw [←g2,←g3,←g1] at h1
     rw [←g3]
     exact hRun.out.put (by omega) h1)
    go_roundw
    case rel=>exact ⟨m1,_,by have:=HX.out.2.2;omega,by have:=HX.out.2.2;go_num,HR2,HRun2,HB2⟩
    case measure=>have:=HX.out.2.2;simp [intOf];omega
  · obtain rfl:i=m:=by omega
    have hge:¬(i:Int) < (i:Int):=by omega
    go_wp2_with fail
    go_ret
    exact ⟨⟨lo,R,rfl,by rw [HLo.out];exact hR.out,hRun.out⟩,by rw [HLo.out];exact hB.out⟩
theorem rqTwice_any (h:Tb w B g A n c V rv) (T G m s:Nat) (R:Nat→Int) (hm:m≤131072) (hs:s≤262144) (hr:w.ownsRow T 3 1 (.slice (some ⟨G,0,none⟩) m m) m (icells R m)) (hR:RunOf V n m s R):
    Calls Tryz.prog 136 #[.pointer (some ⟨g,0,none⟩),.slice (some ⟨G,0,none⟩) m m,.int .i64 (s:Int)] w (RunPost w V n (m - s) (s+s)):=by
 have HH:=Lib.hid h
 have HO:=Lib.hid hr
 have HRun:=Lib.hid hR
 have hfew:=h.few
 clear h hr hR
 obtain ⟨l,hl⟩:∃l,m - s=l:=⟨_,rfl⟩
 have hMk:=make_ints0 w l (by omega)
 obtain ⟨wa,hwa,HR0,HB0⟩:=rq_fresh w l (by omega)
 rw [hwa] at hMk
 have hq:IntKind.i64.wrap ((m:Int) - (s:Int))=(m:Int) - (s:Int):=IntWalk.i64_in _ (by omega)
 have hmax:max (0:Int) ((m:Int) - (s:Int))=(l:Int):=by omega
 obtain ⟨lo,hlo⟩:∃lo,w.heap.size=lo:=⟨_,rfl⟩
 have HLo:=Lib.hid hlo
 rw [hl]
 rw [hlo] at hMk HR0 HB0
 clear hwa hlo
 have HM:=Lib.hid hl
 clear hl
 go_enter Tryz.func136,Tryz.ntmps136
 go_upto_region 1 with (fail)
 go_cut [7] (fun s wx=>s=.slice (some ⟨lo,0,none⟩) l l∧wx=wa)
 case first=>
  by_cases h1:(0:Int) < (m:Int) - (s:Int)
  all_goals
   go_wp2_with fail
   go_meet
   exact ⟨rfl,rfl⟩
 case rest=>
 obtain ⟨rfl,rfl⟩:=hcut
 have hR32:=HRun
 go_wp2_with fail
 go_loopw [17] (fun v wr=>∃(i:Nat) (R':Nat→Int),i≤l∧v=.int .i64 (i:Int)∧Hid (wr.ownsRow lo 3 1 (.slice (some ⟨lo,0,none⟩) l l) l (icells R' l))∧Hid (RunOf V n i (s+s) R')∧Hid (Below lo w wr)) (fun v _=>l - (intOf v).toNat)
 case atStart=>exact ⟨0,_,Nat.zero_le _,rfl,HR0,Lib.hid fun f hf=>absurd hf (Nat.not_lt_zero f),HB0⟩
 case round=>
  clear HR0 HB0 hMk
  obtain ⟨i,R',hi,rfl,hR,hRn,hB⟩:=hrel
  by_cases hlt:i < l
  · have hlti:(i:Int) < (l:Int):=by omega
    have hml:=HM.out
    have hOw:Hid (wr.ownsRow T 3 1 (.slice (some ⟨G,0,none⟩) m m) m (icells R m)):=Lib.hid (ownsRow_keep HO.out (by rw [HLo.out];exact hB.out))
    obtain ⟨p,hp1,hp2,hp3⟩:=HRun.out i (by omega)
    obtain ⟨q,hq1,hq2,hq3⟩:=HRun.out (i+s) (by omega)
    have ca:∀z,(wr.drewN z).cell? ⟨G,i,none⟩=some (.int .i64 (p:Int)):=fun z=>by
     rw [←hp1]
     exact (hOw.out.cellAt i (by omega)).trans (icells_at _ _ _ (by omega))
    have cb:∀z,(wr.drewN z).cell? ⟨G,i+s,none⟩=some (.int .i64 (q:Int)):=fun z=>by
     rw [←hq1]
     exact (hOw.out.cellAt (i+s) (by omega)).trans (icells_at _ _ _ (by omega))
    have HL:∀z,Hid (Calls Tryz.prog 150 #[.pointer (some ⟨g,0,none⟩),.int .i64 (p:Int),.int .i64 (q:Int)] (wr.drewN z) fun e w'=>e=.returned (.int .i64 ((lesI V p q:Nat):Int))∧∃k,w'=wr.drewN k):=fun z=>Lib.hid ((rqLess_any ((HH.out.keep (w':=wr) (by rw [HLo.out];exact hB.out)).drewN z) p q hp2 hq2).mono fun e w' hh=>by
     obtain ⟨h1,k,h2⟩:=hh
     exact ⟨h1,_,h2.trans (World.drewN_drewN _ _ _)⟩)
    have HF:=Lib.hid (hp3.join hq3 (by omega) (by omega) (by omega))
    have hrn:lesI V p q < n:=lesI_lt hp2 hq2
    obtain ⟨r,hr⟩:∃r,lesI V p q=r:=⟨_,rfl⟩
    rw [hr] at HF HL hrn
    obtain ⟨j,hj⟩:∃j,i+s=j:=⟨_,rfl⟩
    have e1:IntKind.i64.wrap ((i:Int)+(s:Int))=(j:Int):=by rw [IntWalk.i64_in _ (by omega)];omega
    have l1:(i:Int) < (m:Int):=by omega
    have l2:(j:Int) < (m:Int):=by omega
    rw [hj] at cb
    have hfz:∀z,(wr.drewN z).frozen? ⟨lo,i,none⟩=false:=fun z=>owns_free (owns_sameB (w':=wr.drewN z) hR.out fun _ _ _=>rfl) i
    have hcell:∀z,(wr.drewN z).cell? ⟨lo,i,none⟩=some (.int .i64 (R' i)):=fun z=>(hR.out.cellAt i (by omega)).trans (icells_at _ _ _ hlt)
    generalize hu:R' i=u at hcell
    have HR2:∀z,Hid (((wr.drewN z).setCell ⟨lo,i,none⟩ (.int .i64 (r:Int))).ownsRow lo 3 1 (.slice (some ⟨lo,0,none⟩) l l) l (icells (fun j=>if j=i then (r:Int) else R' j) l)):=fun z=>Lib.hid (by
     have:=owns_put (owns_sameB (w':=wr.drewN z) hR.out fun _ _ _=>rfl) i (.int .i64 (r:Int))
     rw [icells_put] at this
     exact this)
    have HB2:∀z,Hid (Below lo w ((wr.drewN z).setCell ⟨lo,i,none⟩ (.int .i64 (r:Int)))):=fun z=>Lib.hid ((below_drewN' hB.out z).setCell (p:=⟨lo,i,none⟩) (Nat.le_refl _) _)
    have HRun2:Hid (RunOf V n (i+1) (s+s) (fun j=>if j=i then (r:Int) else R' j)):=Lib.hid (hRn.out.put hrn (by rw [←Nat.add_assoc];exact HF.out))
    clear hu hr hj hp1 hp2 hp3 hq1 hq2 hq3 hrn hR hRn hB hOw
    have ca1:wr.drew.cell? ⟨G,i,none⟩=some (.int .i64 (p:Int)):=ca 1
    have cb1:wr.drew.cell? ⟨G,j,none⟩=some (.int .i64 (q:Int)):=cb 1
    have HL1:Hid (Calls Tryz.prog 150 #[.pointer (some ⟨g,0,none⟩),.int .i64 (p:Int),.int .i64 (q:Int)] wr.drew fun e w'=>e=.returned (.int .i64 (r:Int))∧∃k,w'=wr.drewN k):=HL 1
    go_wp2_with fail
    go_region_with (go_at_call 150;(with_reducible refine HL1.out.mono ?_);rintro e w' ⟨rfl,k,rfl⟩)
    all_goals
     go_wp2_with fail
     go_roundw
     case rel=>exact ⟨i+1,_,by omega,by go_num,HR2 k,HRun2,HB2 k⟩
     case measure=>simp [intOf];omega
  · obtain rfl:i=l:=by omega
    have hge:¬(i:Int) < (i:Int):=by omega
    go_wp2_with fail
    go_ret
    exact ⟨⟨lo,R',rfl,by rw [HLo.out];exact hR.out,hRn.out⟩,by rw [HLo.out];exact hB.out⟩
end
end Go.Proofs.YtcidobpbepeakaaGreat
