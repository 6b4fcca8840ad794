/- Texts of ours, joined: BstDev. -/
import Derived.Test.YtcidobpbepeakaaGreatB27
import Derived.Test.YtcidobpbepeakaaGreatB30
import Derived.Test.YtcidobpbepeakaaGreatB04
import Derived.Test.YtcidobpbepeakaaGreatB01
import Derived.Test.YtcidobpbepeakaaGreatB09
import Derived.Handy
import Derived.Deep.RegionHeld3
import Derived.Deep.RegionLaw
import Derived.Deep.AppendLies
import Derived.WalkSmall
import Derived.Deep.LoopGhost
set_option maxRecDepth 1000000
set_option maxHeartbeats 6400000
namespace Go.Proofs.YtcidobpbepeakaaGreat
structure Pt where
 lv:Nat
 le:Int
 a:Nat
 b:Nat
def Ahd (x y:Pt):Prop:=y.b - y.a < x.b - x.a∨(x.b - x.a=y.b - y.a∧x.le < y.le)
instance (x y:Pt):Decidable (Ahd x y):=by unfold Ahd;infer_instance
theorem Ahd.not {x y:Pt} (h:Ahd x y):¬Ahd y x:=by unfold Ahd at*; omega
theorem Ahd.trans {x y z:Pt} (h:Ahd x y) (h':Ahd y z):Ahd x z:=by unfold Ahd at*; omega
theorem nAhd_trans {x y z:Pt} (h:¬Ahd x y) (h':¬Ahd y z):¬Ahd x z:=by unfold Ahd at*; omega
theorem Ahd.irr {x:Pt}:¬Ahd x x:=by unfold Ahd;omega
def upQ (Q:Nat→Pt) (i:Nat) (x:Pt):Nat→Pt:=fun k=>if k=i then x else Q k
theorem upQ_at (Q:Nat→Pt) (i:Nat) (x:Pt):upQ Q i x i=x:=if_pos rfl
theorem upQ_off (Q:Nat→Pt) {i k:Nat} (x:Pt) (h:k≠i):upQ Q i x k=Q k:=if_neg h
def swQ (Q:Nat→Pt) (i j:Nat):Nat→Pt:=upQ (upQ Q i (Q j)) j (Q i)
theorem swQ_r (Q:Nat→Pt) (i j:Nat):swQ Q i j j=Q i:=upQ_at _ _ _
theorem swQ_l (Q:Nat→Pt) (i j:Nat):swQ Q i j i=Q j:=by
 unfold swQ
 by_cases h:i=j
 · subst h
   exact upQ_at _ _ _
 · rw [upQ_off _ _ h,upQ_at]
theorem swQ_off (Q:Nat→Pt) {i j k:Nat} (h1:k≠i) (h2:k≠j):swQ Q i j k=Q k:=by
 unfold swQ
 rw [upQ_off _ _ h2,upQ_off _ _ h1]
def takeQ (Q:Nat→Pt):Nat→List Pt
 | 0=>[]
 | m+1=>takeQ Q m++[Q m]
theorem takeQ_len (Q:Nat→Pt):∀m,(takeQ Q m).length=m
 | 0=>rfl
 | m+1=>by
   show (takeQ Q m++[Q m]).length=m+1
   rw [List.length_append,takeQ_len Q m]
   rfl
theorem takeQ_mem {Q:Nat→Pt} {x:Pt}:∀ {m:Nat},x∈takeQ Q m↔∃j,j < m∧Q j=x
 | 0=>⟨fun h=>(by cases h),fun ⟨j,h,_⟩=>absurd h (Nat.not_lt_zero j)⟩
 | m+1=>by
   show x∈takeQ Q m++[Q m]↔_
   rw [List.mem_append,takeQ_mem,List.mem_singleton]
   constructor
   · rintro (⟨j,h,e⟩ | h)
     · exact ⟨j,by omega,e⟩
     · exact ⟨m,Nat.lt_succ_self m,h.symm⟩
   · rintro ⟨j,h,e⟩
     by_cases hj:j=m
     · rw [hj] at e
       exact .inr e.symm
     · exact .inl ⟨j,by omega,e⟩
theorem takeQ_alike {Q Q':Nat→Pt}:∀ {m:Nat},(∀j,j < m→Q j=Q' j)→takeQ Q m=takeQ Q' m
 | 0,_=>rfl
 | m+1,h=>by
   show takeQ Q m++[Q m]=takeQ Q' m++[Q' m]
   rw [takeQ_alike (m:=m) fun j hj=>h j (by omega),h m (Nat.lt_succ_self m)]
theorem takeQ_up (Q:Nat→Pt) (i:Nat) (x:Pt):∀m,i < m→(takeQ (upQ Q i x) m++[Q i]).Perm (takeQ Q m++[x])
 | 0,h=>absurd h (Nat.not_lt_zero i)
 | m+1,h=>by
   show (takeQ (upQ Q i x) m++[upQ Q i x m]++[Q i]).Perm (takeQ Q m++[Q m]++[x])
   by_cases e:i=m
   · subst e
     rw [upQ_at,takeQ_alike (Q:=upQ Q i x) (Q':=Q) fun j hj=>upQ_off _ _ (by omega),List.append_assoc,List.append_assoc]
     exact (List.Perm.swap _ _ _).append_left _
   · rw [upQ_off _ _ (Ne.symm e)]
     have h1:(takeQ (upQ Q i x) m++[Q m]++[Q i]).Perm (takeQ (upQ Q i x) m++[Q i]++[Q m]):=by
      rw [List.append_assoc,List.append_assoc]
      exact (List.Perm.swap _ _ _).append_left _
     have h2:=(takeQ_up Q i x m (by omega)).append_right [Q m]
     have h3:(takeQ Q m++[x]++[Q m]).Perm (takeQ Q m++[Q m]++[x]):=by
      rw [List.append_assoc,List.append_assoc]
      exact (List.Perm.swap _ _ _).append_left _
     exact h1.trans (h2.trans h3)
theorem takeQ_sw (Q:Nat→Pt) {i j m:Nat} (hi:i < m) (hj:j < m):(takeQ (swQ Q i j) m).Perm (takeQ Q m):=by
 by_cases e:i=j
 · subst e
   rw [takeQ_alike (Q:=swQ Q i i) (Q':=Q) fun k _=>by
    by_cases h:k=i
    · subst h
      exact swQ_r _ _ _
    · exact swQ_off _ h h]
 · have h1:=takeQ_up (upQ Q i (Q j)) j (Q i) m hj
   rw [upQ_off _ _ (Ne.symm e)] at h1
   have h2:=h1.trans (takeQ_up Q i (Q j) m hi)
   exact (List.perm_append_right_iff _).1 h2
def parI (c:Nat):Nat:=(c - 1) / 2
theorem parI_lt {c:Nat} (h:0 < c):parI c < c:=by unfold parI;omega
def IsHp (Q:Nat→Pt) (m:Nat):Prop:=∀c,0 < c→c < m→¬Ahd (Q c) (Q (parI c))
theorem IsHp.top {Q:Nat→Pt} {m:Nat} (h:IsHp Q m):∀c,c < m→¬Ahd (Q c) (Q 0):=fun c=>by
 induction c using Nat.strongRecOn with
 | _ c ih=>
   intro hc
   rcases Nat.eq_zero_or_pos c with e | e
   · rw [e]
     exact Ahd.irr
   · have:=parI_lt e
     exact nAhd_trans (h c e hc) (ih (parI c) this (by omega))
structure UpIn (Q:Nat→Pt) (m j:Nat):Prop where
 rest:∀c,0 < c→c < m→c≠j→¬Ahd (Q c) (Q (parI c))
 kin:∀c,0 < c→c < m→parI c=j→0 < j→¬Ahd (Q c) (Q (parI j))
theorem UpIn.start {Q:Nat→Pt} {m:Nat} (h:IsHp Q m) (x:Pt):UpIn (upQ Q m x) (m+1) m:=by
 refine ⟨fun c h1 h2 h3=>?_,fun c h1 h2 h3 _=>?_⟩
 · have:=parI_lt h1
   rw [upQ_off _ _ h3,upQ_off _ _ (by omega)]
   exact h c h1 (by omega)
 · have:=parI_lt h1
   omega
theorem UpIn.step {Q:Nat→Pt} {m j:Nat} (h:UpIn Q m j) (hj:0 < j) (hm:j < m) (hA:Ahd (Q j) (Q (parI j))):UpIn (swQ Q (parI j) j) m (parI j):=by
 have hp:=parI_lt hj
 refine ⟨fun c h1 h2 h3=>?_,fun c h1 h2 h3 h4=>?_⟩
 · have hc:=parI_lt h1
   by_cases e:c=j
   · subst e
     rw [swQ_r,swQ_l]
     exact hA.not
   · rw [swQ_off _ h3 e]
     by_cases e2:parI c=j
     · rw [e2,swQ_r]
       exact h.kin c h1 h2 e2 hj
     · by_cases e3:parI c=parI j
       · rw [e3,swQ_l]
         have h5:=h.rest c h1 h2 e
         rw [e3] at h5
         exact fun g=>h5 (g.trans hA)
       · rw [swQ_off _ e3 e2]
         exact h.rest c h1 h2 e
 · have hq:=parI_lt h4
   rw [swQ_off (k:=parI (parI j)) _ (by omega) (by omega)]
   have h5:=h.rest (parI j) h4 (by omega) (by omega)
   by_cases e:c=j
   · subst e
     rw [swQ_r]
     exact h5
   · have hc:=parI_lt h1
     rw [swQ_off _ (by omega) e]
     have h6:=h.rest c h1 h2 e
     rw [h3] at h6
     exact nAhd_trans h6 h5
theorem UpIn.stop {Q:Nat→Pt} {m j:Nat} (h:UpIn Q m j) (hA:j=0∨¬Ahd (Q j) (Q (parI j))):IsHp Q m:=fun c h1 h2=>by
 by_cases e:c=j
 · subst e
   rcases hA with g | g
   · omega
   · exact g
 · exact h.rest c h1 h2 e
structure DnIn (Q:Nat→Pt) (n i:Nat):Prop where
 rest:∀c,0 < c→c < n→parI c≠i→¬Ahd (Q c) (Q (parI c))
 kin:∀c,0 < c→c < n→parI c=i→0 < i→¬Ahd (Q c) (Q (parI i))
theorem DnIn.start {Q:Nat→Pt} {n:Nat} (h:IsHp Q (n+1)):DnIn (swQ Q 0 n) n 0:=by
 refine ⟨fun c h1 h2 h3=>?_,fun c h1 h2 h3 h4=>by omega⟩
 have:=parI_lt h1
 rw [swQ_off _ (by omega) (by omega),swQ_off _ h3 (by omega)]
 exact h c h1 (by omega)
theorem parI_kids {c i:Nat} (h:0 < c):parI c=i↔c=2*i+1∨c=2*i+2:=by
 unfold parI
 omega
theorem DnIn.step {Q:Nat→Pt} {n i j:Nat} (h:DnIn Q n i) (hj:j=2*i+1∨j=2*i+2) (hn:j < n) (hbest:∀c,(c=2*i+1∨c=2*i+2)→c < n→¬Ahd (Q c) (Q j)) (hA:Ahd (Q j) (Q i)):DnIn (swQ Q i j) n j:=by
 have hj0:0 < j:=by omega
 have hpj:parI j=i:=(parI_kids hj0).2 hj
 refine ⟨fun c h1 h2 h3=>?_,fun c h1 h2 h3 _=>?_⟩
 · have hc:=parI_lt h1
   by_cases e:c=j
   · subst e
     rw [swQ_r,hpj,swQ_l]
     exact hA.not
   · by_cases e2:c=i
     · subst e2
       rw [swQ_l,swQ_off _ (by omega) h3]
       exact h.kin j hj0 hn hpj h1
     · rw [swQ_off _ e2 e]
       by_cases e3:parI c=i
       · rw [e3,swQ_l]
         exact hbest c ((parI_kids h1).1 e3) h2
       · rw [swQ_off _ e3 h3]
         exact h.rest c h1 h2 e3
 · have hc:=parI_lt h1
   rw [hpj,swQ_l,swQ_off _ (by omega) (by omega)]
   have h5:=h.rest c h1 h2 (by omega)
   rw [h3] at h5
   exact h5
theorem DnIn.stop {Q:Nat→Pt} {n i:Nat} (h:DnIn Q n i) (hA:∀c,(c=2*i+1∨c=2*i+2)→c < n→¬Ahd (Q c) (Q i)):IsHp Q n:=fun c h1 h2=>by
 by_cases e:parI c=i
 · have:=hA c ((parI_kids h1).1 e) h2
   rw [e]
   exact this
 · exact h.rest c h1 h2 e
def toP (W:Nat) (x:Pt):Int×Nat:=(x.le,W - x.lv)
def partsP (W:Nat) (Q:Nat→Pt) (m:Nat):List (Int×Nat):=(takeQ Q m).map (toP W)
structure PtOk (V:Nat→Int) (n W A Z:Nat) (x:Pt):Prop where
 lv:x.lv≤W
 nar:∃q:Int,x.le=q*2^(W - x.lv)∧0≤q∧q < 2^x.lv∧Nar V n W x.lv A Z q x.a x.b
 any:x.a < x.b
theorem div_eq_iff {x q:Int} {s:Nat}:x / 2^s=q↔q*2^s≤x∧x < q*2^s+2^s:=by
 have hp:(0:Int) < 2^s:=Int.pow_pos (by decide)
 constructor
 · intro h
   have h1:=Int.mul_ediv_add_emod x (2^s)
   have h2:=Int.emod_nonneg x (Int.ne_of_gt hp)
   have h3:=Int.emod_lt_of_pos x hp
   rw [h,Int.mul_comm] at h1
   omega
 · rintro ⟨h1,h2⟩
   have e:x=q*2^s+(x - q*2^s):=by omega
   rw [e,Int.add_comm,Int.add_mul_ediv_right _ _ (Int.ne_of_gt hp),Int.ediv_eq_zero_of_lt (by omega) (by omega),Int.zero_add]
theorem Nar.many_in {V:Nat→Int} {n W k A Z a b:Nat} {q:Int} (h:Nar V n W k A Z q a b) (hAZ:A≤Z) (hZ:Z≤n):cntP (partL V (A:Int) (Z:Int) n) (q*2^(W - k),W - k)=b - a:=by
 rw [h.size]
 unfold cntP
 rw [countP_partL,seg_range (fun j=>decide (q*2^(W - k)≤V j∧V j < q*2^(W - k)+2^(W - k))) hAZ hZ]
 refine seg_congr (fun j _=>decide_eq_decide.2 ?_) hAZ
 exact div_eq_iff.symm
section
variable {V:Nat→Int} {n W A Z:Nat} {x y:Pt}
theorem PtOk.cnt (h:PtOk V n W A Z x) (hAZ:A≤Z) (hZ:Z≤n):cntP (partL V (A:Int) (Z:Int) n) (toP W x)=x.b - x.a:=by
 obtain ⟨q,e,_,_,hN⟩:=h.nar
 unfold toP
 rw [e]
 exact hN.many_in hAZ hZ
theorem PtOk.ahd (h:PtOk V n W A Z x) (h':PtOk V n W A Z y) (hAZ:A≤Z) (hZ:Z≤n):BetP (partL V (A:Int) (Z:Int) n) (toP W x) (toP W y)↔Ahd x y:=by
 unfold BetP Ahd
 rw [h.cnt hAZ hZ,h'.cnt hAZ hZ]
 show _∨(_∧x.le < y.le)↔_
 omega
theorem PtOk.room (h:PtOk V n W A Z x):x.b≤n:=by
 obtain ⟨q,_,_,_,hN⟩:=h.nar
 exact hN.room
theorem PtOk.low (h:PtOk V n W A Z x):0≤x.le∧x.le < 2^W:=by
 obtain ⟨q,e,h0,h1,_⟩:=h.nar
 have hp:(0:Int) < 2^(W - x.lv):=Int.pow_pos (by decide)
 have hW:(2:Int)^W=2^x.lv*2^(W - x.lv):=by rw [←Int.pow_add];congr 1;have:=h.lv;omega
 rw [e,hW]
 exact ⟨Int.mul_nonneg h0 (Int.le_of_lt hp),Int.mul_lt_mul_of_pos_right h1 hp⟩
noncomputable def halfQ (V:Nat→Int) (n W:Nat) (x:Pt) (c:Nat):Pt:=⟨x.lv+1,x.le+(c:Int)*2^(W - 1 - x.lv),dnB (levBit V n W x.lv) n (c:Int) x.a,dnB (levBit V n W x.lv) n (c:Int) x.b⟩
theorem PtOk.half_nar (h:PtOk V n W A Z x) (hAZ:A≤Z) (hW:x.lv < W) {c:Nat} (hc:c < 2):∃q:Int,(halfQ V n W x c).le=q*2^(W - (x.lv+1))∧0≤q∧q < 2^(x.lv+1)∧Nar V n W (x.lv+1) A Z q (halfQ V n W x c).a (halfQ V n W x c).b:=by
 obtain ⟨q,e,h0,h1,hN⟩:=h.nar
 have hc2:(c:Int)=0∨(c:Int)=1:=by omega
 have hp:=pow_up q (c:Int) x.lv ⟨h0,h1⟩ hc2
 refine ⟨2*q+(c:Int),?_,hp.1,hp.2,hN.step2 hW hAZ hc2⟩
 show x.le+(c:Int)*2^(W - 1 - x.lv)=_
 have e1:W - x.lv=(W - 1 - x.lv)+1:=by omega
 have e2:W - (x.lv+1)=W - 1 - x.lv:=by omega
 rw [e,e1,e2,Int.pow_succ,Int.add_mul,←Int.mul_assoc,Int.mul_comm (q*2^(W - 1 - x.lv)) 2,Int.mul_assoc]
theorem PtOk.half (h:PtOk V n W A Z x) (hAZ:A≤Z) (hW:x.lv < W) {c:Nat} (hc:c < 2) (hany:(halfQ V n W x c).a < (halfQ V n W x c).b):PtOk V n W A Z (halfQ V n W x c):=⟨hW,h.half_nar hAZ hW hc,hany⟩
theorem PtOk.half_cnt (h:PtOk V n W A Z x) (hAZ:A≤Z) (hZ:Z≤n) (hW:x.lv < W) {c:Nat} (hc:c < 2):cntP (partL V (A:Int) (Z:Int) n) (toP W (halfQ V n W x c))=(halfQ V n W x c).b - (halfQ V n W x c).a:=by
 obtain ⟨q,e,_,_,hN⟩:=h.half_nar hAZ hW hc
 have h2:=hN.many_in hAZ hZ
 rw [←e] at h2
 exact h2
noncomputable def laidQ (V:Nat→Int) (n W:Nat) (x:Pt) (c:Nat):List Pt:=if (halfQ V n W x c).a < (halfQ V n W x c).b then [halfQ V n W x c] else []
theorem PtOk.halves (h:PtOk V n W A Z x) (hAZ:A≤Z) (hZ:Z≤n) (hW:x.lv < W):halvesP (partL V (A:Int) (Z:Int) n) (toP W x)=(laidQ V n W x 0++laidQ V n W x 1).map (toP W):=by
 have c0:=h.half_cnt hAZ hZ hW (c:=0) (by decide)
 have c1:=h.half_cnt hAZ hZ hW (c:=1) (by decide)
 have e0:toP W (halfQ V n W x 0)=((toP W x).1,(toP W x).2 - 1):=by
  show (x.le+((0:Nat):Int)*_,W - (x.lv+1))=(x.le,W - x.lv - 1)
  rw [show ((0:Nat):Int)=0 from rfl,Int.zero_mul,Int.add_zero,Nat.sub_add_eq]
 have e1:toP W (halfQ V n W x 1)=((toP W x).1+2^((toP W x).2 - 1),(toP W x).2 - 1):=by
  show (x.le+((1:Nat):Int)*_,W - (x.lv+1))=(x.le+2^(W - x.lv - 1),W - x.lv - 1)
  rw [show ((1:Nat):Int)=1 from rfl,Int.one_mul,Nat.sub_add_eq,show W - 1 - x.lv=W - x.lv - 1 by omega]
 unfold halvesP laidQ
 rw [←e0,←e1]
 have f0:(0 < cntP (partL V (A:Int) (Z:Int) n) (toP W (halfQ V n W x 0)))↔(halfQ V n W x 0).a < (halfQ V n W x 0).b:=by rw [c0];omega
 have f1:(0 < cntP (partL V (A:Int) (Z:Int) n) (toP W (halfQ V n W x 1)))↔(halfQ V n W x 1).a < (halfQ V n W x 1).b:=by rw [c1];omega
 by_cases g0:(halfQ V n W x 0).a < (halfQ V n W x 0).b
 · by_cases g1:(halfQ V n W x 1).a < (halfQ V n W x 1).b
   · rw [List.filter_cons_of_pos (by simpa using f0.2 g0),List.filter_cons_of_pos (by simpa using f1.2 g1),if_pos g0,if_pos g1]
     rfl
   · rw [List.filter_cons_of_pos (by simpa using f0.2 g0),List.filter_cons_of_neg (by simpa using fun h=>g1 (f1.1 h)),if_pos g0,if_neg g1]
     rfl
 · by_cases g1:(halfQ V n W x 1).a < (halfQ V n W x 1).b
   · rw [List.filter_cons_of_neg (by simpa using fun h=>g0 (f0.1 h)),List.filter_cons_of_pos (by simpa using f1.2 g1),if_neg g0,if_pos g1]
     rfl
   · rw [List.filter_cons_of_neg (by simpa using fun h=>g0 (f0.1 h)),List.filter_cons_of_neg (by simpa using fun h=>g1 (f1.1 h)),if_neg g0,if_neg g1]
     rfl
end
theorem SInv.perm {K:Nat} {l:List Int} {P P' T:List (Int×Nat)} {I:Nat} (h:SInv K l P T I) (hp:P.Perm P'):SInv K l P' T I:=by
 refine ⟨fun q hq=>h.pos q (hp.mem_iff.2 hq),hp.pairwise h.apart (fun {x y} g=>g.symm),fun x hx=>?_,h.rise,h.many,fun d hd q hq=>h.ahead d hd q (hp.mem_iff.2 hq),?_,?_⟩
 · rcases h.cover x hx with ⟨q,hq,g⟩ | g
   · exact .inl ⟨q,hp.mem_iff.1 hq,g⟩
   · exact .inr g
 · have:=h.sum
   rw [(hp.map (cntP l)).sum_nat] at this
   exact this
 · have:=h.idle
   rw [(hp.map fun p=>cntP l p*p.2).sum_nat] at this
   exact this
theorem SInv.whole {K:Nat} {l:List Int}:∀(f:Nat) {P T:List (Int×Nat)} {I:Nat},(P.map fun p=>cntP l p*(p.2+1)).sum≤f→SInv K l P T I→∃R,BestOf l R∧R.take T.length=T
 | f,P,T,I,hf,h=>by
   by_cases hP:P=[]
   · subst hP
     exact ⟨T,h.done.1,List.take_length⟩
   · obtain ⟨p,A,B,rfl,hb⟩:=best_part l P hP h.apart
     have hpos:=h.pos p (List.mem_append_right _ (List.mem_cons_self ..))
     rcases Nat.eq_zero_or_pos p.2 with h0 | h0
     · have h2:=h.tell hb h0
       simp only [List.map_append,List.sum_append,List.map_cons,List.sum_cons,h0] at hf
       obtain ⟨f,rfl⟩:∃f',f=f'+1:=⟨f - 1,by omega⟩
       obtain ⟨R,h3,h4⟩:=SInv.whole f (by simp only [List.map_append,List.sum_append];omega) h2
       refine ⟨R,h3,?_⟩
       have h5:=congrArg (List.take T.length) h4
       rw [List.take_take,List.length_append,Nat.min_eq_left (by omega),List.take_left' rfl] at h5
       exact h5
     · have h2:=h.half h0
       have h3:=halves_sum (l:=l) (p:=p) (fun q=>cntP l q*(q.2+1)) (fun q hq=>by show cntP l q*_=0;rw [hq,Nat.zero_mul])
       have h4:=cntP_halves l h0
       have h5:(List.map (fun q=>cntP l q*(q.2+1)) (halvesP l p)).sum=cntP l (p.1,p.2 - 1)*(p.2 - 1+1)+cntP l (p.1+2^(p.2 - 1),p.2 - 1)*(p.2 - 1+1):=h3
       have h6:cntP l p*(p.2+1)=cntP l (p.1,p.2 - 1)*(p.2 - 1+1)+cntP l (p.1+2^(p.2 - 1),p.2 - 1)*(p.2 - 1+1)+cntP l p:=by
        rw [←Nat.add_mul,←h4,show p.2 - 1+1=p.2 by omega,Nat.mul_succ]
       simp only [List.map_append,List.sum_append,List.map_cons,List.sum_cons] at hf
       obtain ⟨f,rfl⟩:∃f',f=f'+1:=⟨f - 1,by omega⟩
       exact SInv.whole f (by simp only [List.map_append,List.sum_append];omega) h2
end Go.Proofs.YtcidobpbepeakaaGreat
namespace Go.Proofs.YtcidobpbepeakaaGreat
open Go.RowKit
theorem info_pt:(Tryz.prog.info? 167).map (fun i=>(i.zero,i.size,i.bytes))=some (some (.agg #[.int .i64 0,.int .i64 0,.int .i64 0,.int .i64 0]),4,32):=by kernel_rfl
theorem meth_via (ad:Addr) (w:World):
    (method 351 194 (.pointer (some ad)) "Len").run Tryz.prog w=(do let v ←loadVar 161 ad;pure (213,v):Sem (FuncId×Value)).run Tryz.prog w∧
    (method 351 194 (.pointer (some ad)) "Less").run Tryz.prog w=(do let v ←loadVar 161 ad;pure (214,v):Sem (FuncId×Value)).run Tryz.prog w∧
    (method 351 194 (.pointer (some ad)) "Swap").run Tryz.prog w=(do let v ←loadVar 161 ad;pure (215,v):Sem (FuncId×Value)).run Tryz.prog w:=⟨by kernel_rfl,by kernel_rfl,by kernel_rfl⟩
theorem load_parts {ad:Addr} {w:World} {v:Value} (h:w.cell? ad=some v) (f:FuncId):(do let v ←loadVar 161 ad;pure (f,v):Sem (FuncId×Value)).run Tryz.prog w=.ok (f,v) w:=by
 simp [loadVar,go_sem,h]
structure Meths (w:World) (ad:Addr) (v:Value):Prop where
 len:(method 351 194 (.pointer (some ad)) "Len").run Tryz.prog w=.ok (213,v) w
 less:(method 351 194 (.pointer (some ad)) "Less").run Tryz.prog w=.ok (214,v) w
 swap:(method 351 194 (.pointer (some ad)) "Swap").run Tryz.prog w=.ok (215,v) w
theorem meths {ad:Addr} {w:World} {v:Value} (h:w.cell? ad=some v):Meths w ad v:=by
 obtain ⟨h1,h2,h3⟩:=meth_via ad w
 exact ⟨h1.trans (load_parts h _),h2.trans (load_parts h _),h3.trans (load_parts h _)⟩
theorem hpLen_any (A:Option Addr) (n c:Nat) (w:World):Calls Tryz.prog 213 #[.slice A n c] w fun e w'=>e=.returned (.int .i64 (n:Int))∧w=w':=by
 go_enter Tryz.func213,Tryz.ntmps213
 go_wp2
 go_ret
 exact ⟨rfl,rfl⟩
def qcells (Q:Nat→Pt):Nat→List Value
 | 0=>[]
 | m+1=>qcells Q m++[.int .i64 ((Q m).lv:Int),.int .i64 (Q m).le,.int .i64 ((Q m).a:Int),.int .i64 ((Q m).b:Int)]
theorem qcells_len (Q:Nat→Pt):∀m,(qcells Q m).length=m*4
 | 0=>rfl
 | m+1=>by
   show (qcells Q m++_).length=_
   rw [List.length_append,qcells_len Q m]
   show m*4+4=(m+1)*4
   omega
theorem qcells_alike {Q Q':Nat→Pt}:∀ {m:Nat},(∀j,j < m→Q j=Q' j)→qcells Q m=qcells Q' m
 | 0,_=>rfl
 | m+1,h=>by
   show qcells Q m++_=qcells Q' m++_
   rw [qcells_alike (m:=m) fun j hj=>h j (by omega),h m (Nat.lt_succ_self m)]
theorem qcells_at (Q:Nat→Pt):∀(m j:Nat),j < m→(qcells Q m)[j*4]?=some (.int .i64 ((Q j).lv:Int))∧(qcells Q m)[j*4+1]?=some (.int .i64 (Q j).le)∧(qcells Q m)[j*4+2]?=some (.int .i64 ((Q j).a:Int))∧(qcells Q m)[j*4+3]?=some (.int .i64 ((Q j).b:Int))
 | 0,j,h=>absurd h (Nat.not_lt_zero j)
 | m+1,j,h=>by
   have hl:=qcells_len Q m
   show (qcells Q m++_)[j*4]?=_∧(qcells Q m++_)[j*4+1]?=_∧(qcells Q m++_)[j*4+2]?=_∧(qcells Q m++_)[j*4+3]?=_
   by_cases e:j=m
   · subst e
     rw [List.getElem?_append_right (by omega),List.getElem?_append_right (by omega),List.getElem?_append_right (by omega),List.getElem?_append_right (by omega),hl,Nat.sub_self,Nat.add_sub_cancel_left,Nat.add_sub_cancel_left,Nat.add_sub_cancel_left]
     exact ⟨rfl,rfl,rfl,rfl⟩
   · rw [List.getElem?_append_left (by omega),List.getElem?_append_left (by omega),List.getElem?_append_left (by omega),List.getElem?_append_left (by omega)]
     exact qcells_at Q m j (by omega)
def put4 (l:List Value) (j:Nat) (x:Pt):List Value:=(((l.set j (.int .i64 (x.lv:Int))).set (j+1) (.int .i64 x.le)).set (j+2) (.int .i64 (x.a:Int))).set (j+3) (.int .i64 (x.b:Int))
theorem qcells_put (Q:Nat→Pt) (i:Nat) (x:Pt):∀m,i < m→put4 (qcells Q m) (i*4) x=qcells (upQ Q i x) m
 | 0,h=>absurd h (Nat.not_lt_zero i)
 | m+1,h=>by
   have hl:=qcells_len Q m
   show put4 (qcells Q m++_) (i*4) x=qcells (upQ Q i x) m++_
   by_cases e:i=m
   · subst e
     rw [←qcells_alike (Q:=Q) (Q':=upQ Q i x) fun j hj=>(upQ_off _ _ (by omega)).symm,upQ_at]
     unfold put4
     rw [List.set_append_right _ _ (by omega),List.set_append_right _ _ (by omega),List.set_append_right _ _ (by omega),List.set_append_right _ _ (by omega),hl,Nat.sub_self,Nat.add_sub_cancel_left,Nat.add_sub_cancel_left,Nat.add_sub_cancel_left]
     rfl
   · have ih:=qcells_put Q i x m (by omega)
     rw [upQ_off _ _ (Ne.symm e),←ih]
     unfold put4
     rw [List.set_append_left _ _ (by omega),List.set_append_left _ _ (by simp;omega),List.set_append_left _ _ (by simp;omega),List.set_append_left _ _ (by simp;omega)]
theorem owns_put4 {w:World} {B n c g:Nat} {t:TypeId} {cs:List Value} (h:w.ownsRow B t 4 (.slice (some ⟨g,0,none⟩) n c) n cs) (j:Nat) (u:Value):(w.setCell ⟨g,j,none⟩ u).ownsRow B t 4 (.slice (some ⟨g,0,none⟩) n c) n (cs.set j u):=by
 refine ⟨by rw [List.length_set];exact h.1,?_⟩
 rcases h.2 with ⟨e,_⟩ | ⟨g',cap,cur,e,h1,h2,h3,h4,h5,h6⟩
 · cases e
 · cases e
   refine .inr ⟨g,c,cur.setIfInBounds j u,rfl,h1,?_,h3,h4,by simp [h5],?_⟩
   · simp [World.setCell,Array.getElem?_modify,h2]
   · rw [←h6,Array.toList_setIfInBounds,List.take_set]
theorem owns_free4 {w:World} {B n c g:Nat} {t:TypeId} {cs:List Value} (h:w.ownsRow B t 4 (.slice (some ⟨g,0,none⟩) n c) n cs) (j:Nat):w.frozen? ⟨g,j,none⟩=false:=by
 rcases h.2 with ⟨e,_⟩ | ⟨g',cap,cur,e,h1,h2,_⟩
 · cases e
 · cases e
   simp [World.frozen?, h2]
theorem owns_room4 {w:World} {B n c:Nat} {t:TypeId} {A:Option Addr} {cs:List Value} (h:w.ownsRow B t 4 (.slice A n c) n cs):n≤c∧c≤maxLen:=by
 rcases h.2 with ⟨e,_⟩ | ⟨g,cap,cur,e,_,_,h1,h2,_⟩
 · cases e
   exact ⟨Nat.le_refl _,Nat.zero_le _⟩
 · cases e
   exact ⟨h1,h2⟩
theorem owns_slice4 {w:World} {B n:Nat} {t:TypeId} {v:Value} {cs:List Value} (h:w.ownsRow B t 4 v n cs):(n=0∧v=.slice none 0 0)∨∃g c,v=.slice (some ⟨g,0,none⟩) n c∧B≤g∧g < w.heap.size:=by
 have h1:=h.1
 rcases h.2 with ⟨e,h0⟩ | ⟨g,cap,cur,e,h2,h3,_⟩
 · exact .inl ⟨by omega,e⟩
 · exact .inr ⟨g,cap,e,h2,(Array.getElem?_eq_some_iff.1 h3).1⟩
theorem hpSize_any (x:Pt) (h:x.a≤x.b) (hb:x.b≤4194304) (w:World):Calls Tryz.prog 153 #[.agg #[.int .i64 (x.lv:Int),.int .i64 x.le,.int .i64 (x.a:Int),.int .i64 (x.b:Int)]] w fun e w'=>e=.returned (.int .i64 ((x.b - x.a:Nat):Int))∧Below w.heap.size w w':=by
 go_enter Tryz.func153,Tryz.ntmps153
 go_wp2_with fail
 go_ret
 exact ⟨ret_i64 (by omega),(Below.refl _ _).alloc (Nat.le_refl _) _⟩
def ptV (x:Pt):Value:=.agg #[.int .i64 (x.lv:Int),.int .i64 x.le,.int .i64 (x.a:Int),.int .i64 (x.b:Int)]
def Four (w:World) (g i:Nat) (x:Pt):Prop:=w.cell? ⟨g,i*4,none⟩=some (.int .i64 (x.lv:Int))∧w.cell? ⟨g,i*4+1,none⟩=some (.int .i64 x.le)∧w.cell? ⟨g,i*4+2,none⟩=some (.int .i64 (x.a:Int))∧w.cell? ⟨g,i*4+3,none⟩=some (.int .i64 (x.b:Int))
theorem owns_four {w:World} {B g m c:Nat} {Q:Nat→Pt} (h:w.ownsRow B 167 4 (.slice (some ⟨g,0,none⟩) m c) m (qcells Q m)) {i:Nat} (hi:i < m):Four w g i (Q i):=by
 obtain ⟨h1,h2,h3,h4⟩:=qcells_at Q m i hi
 exact ⟨(h.cellAt _ (by omega)).trans h1,(h.cellAt _ (by omega)).trans h2,(h.cellAt _ (by omega)).trans h3,(h.cellAt _ (by omega)).trans h4⟩
theorem hpLess_any {w:World} {B g m c:Nat} {Q:Nat→Pt} (h:w.ownsRow B 167 4 (.slice (some ⟨g,0,none⟩) m c) m (qcells Q m)) (i j:Nat) (hi:i < m) (hj:j < m) (hi2:(Q i).a≤(Q i).b∧(Q i).b≤4194304) (hj2:(Q j).a≤(Q j).b∧(Q j).b≤4194304) (r:Bool) (hr:r=true↔Ahd (Q i) (Q j)):Calls Tryz.prog 214 #[.slice (some ⟨g,0,none⟩) m c,.int .i64 (i:Int),.int .i64 (j:Int)] w fun e w'=>e=.returned (.bool r)∧Below w.heap.size w w':=by
 have hgs:g < w.heap.size:=by
  rcases owns_slice4 h with ⟨h0,_⟩ | ⟨g2,c2,e,_,h2⟩
  · omega
  · cases e
    exact h2
 have HX:=Lib.hid (owns_four h hi)
 have HY:=Lib.hid (owns_four h hj)
 have hm:m≤9223372036854775807:=by have:=owns_room4 h;unfold maxLen at this;omega
 have hci:(i:Int) < (m:Int):=by omega
 have hcj:(j:Int) < (m:Int):=by omega
 generalize Q i=x at HX hi2 hr
 generalize Q j=y at HY hj2 hr
 have HSx:Hid (∀w,Calls Tryz.prog 153 #[ptV x] w fun e w'=>e=.returned (.int .i64 ((x.b - x.a:Nat):Int))∧Below w.heap.size w w'):=Lib.hid fun w=>hpSize_any x hi2.1 hi2.2 w
 have HSy:Hid (∀w,Calls Tryz.prog 153 #[ptV y] w fun e w'=>e=.returned (.int .i64 ((y.b - y.a:Nat):Int))∧Below w.heap.size w w'):=Lib.hid fun w=>hpSize_any y hj2.1 hj2.2 w
 obtain ⟨l1,e1,a1,b1⟩:=x
 obtain ⟨l2,e2,a2,b2⟩:=y
 unfold ptV at HSx HSy
 unfold Ahd at hr
 dsimp only at HSx HSy hi2 hj2 hr
 unfold Four at HX HY
 dsimp only at HX HY
 generalize b1 - a1=n1 at HSx hr
 generalize b2 - a2=n2 at HSy hr
 clear h hi2 hj2
 obtain ⟨W0,hW0⟩:∃W0,w=W0:=⟨_,rfl⟩
 have HW0:=Lib.hid hW0
 have HG:=Lib.hid hgs
 have HK:Hid (∀w',Below W0.heap.size W0 w'→(w'.cell? ⟨g,i*4,none⟩=some (.int .i64 (l1:Int))∧w'.cell? ⟨g,i*4+1,none⟩=some (.int .i64 e1)∧w'.cell? ⟨g,i*4+2,none⟩=some (.int .i64 (a1:Int))∧w'.cell? ⟨g,i*4+3,none⟩=some (.int .i64 (b1:Int)))∧(w'.cell? ⟨g,j*4,none⟩=some (.int .i64 (l2:Int))∧w'.cell? ⟨g,j*4+1,none⟩=some (.int .i64 e2)∧w'.cell? ⟨g,j*4+2,none⟩=some (.int .i64 (a2:Int))∧w'.cell? ⟨g,j*4+3,none⟩=some (.int .i64 (b2:Int)))∧Below W0.heap.size W0 w'):=Lib.hid fun w' hb=>by
  subst hW0
  obtain ⟨h1,h2,h3,h4⟩:=HX.out
  obtain ⟨k1,k2,k3,k4⟩:=HY.out
  exact ⟨⟨(hb.cell hgs).trans h1,(hb.cell hgs).trans h2,(hb.cell hgs).trans h3,(hb.cell hgs).trans h4⟩,⟨(hb.cell hgs).trans k1,(hb.cell hgs).trans k2,(hb.cell hgs).trans k3,(hb.cell hgs).trans k4⟩,hb⟩
 rw [hW0]
 clear hW0 HX HY HW0 HG hgs
 have hbd0:=below_drew' (Below.refl W0.heap.size W0)
 go_enter Tryz.func214,Tryz.ntmps214
 go_upto_region 1 with (fail)
 go_cut [17] (fun s wx=>s=.bool (decide (n1≠n2))∧Below W0.heap.size W0 wx)
 case first=>
  go_region_held3 (fun w'=>(w'.cell? ⟨g,i*4,none⟩=some (.int .i64 (l1:Int))∧w'.cell? ⟨g,i*4+1,none⟩=some (.int .i64 e1)∧w'.cell? ⟨g,i*4+2,none⟩=some (.int .i64 (a1:Int))∧w'.cell? ⟨g,i*4+3,none⟩=some (.int .i64 (b1:Int)))∧(w'.cell? ⟨g,j*4,none⟩=some (.int .i64 (l2:Int))∧w'.cell? ⟨g,j*4+1,none⟩=some (.int .i64 e2)∧w'.cell? ⟨g,j*4+2,none⟩=some (.int .i64 (a2:Int))∧w'.cell? ⟨g,j*4+3,none⟩=some (.int .i64 (b2:Int)))∧Below W0.heap.size W0 w')
   ((first
     | exact HK.out _ hbd0
     | exact HK.out _ hC1
     | exact HK.out _ hC2))
   (first
     | (go_at_call 153;(with_reducible refine (HSx.out _).mono ?_);rintro e x1 ⟨rfl,hc1⟩;have hC1:=hbd0.trans (hc1.mono hbd0.size))
     | (go_at_call 153;(with_reducible refine (HSy.out _).mono ?_);rintro e x2 ⟨rfl,hc2⟩;have hC2:=hC1.trans (hc2.mono hC1.size)))
  all_goals
   go_wp2_with fail
   go_meet
   refine ⟨?_,hC2⟩
   congr 1
   rw [Bool.eq_iff_iff,bne_iff_ne,decide_eq_true_iff]
   omega
 case rest=>
  obtain ⟨rfl,hcw⟩:=hcut
  clear hbd0
  by_cases en:n1=n2
  · have hd:decide (n1≠n2)=false:=decide_eq_false fun h=>h en
    obtain ⟨hx,hy,_⟩:=HK.out _ hcw
    have HB:=Lib.hid hcw
    have HR:Hid (r=decide (e1 < e2)):=Lib.hid (by rw [Bool.eq_iff_iff,hr,decide_eq_true_iff];omega)
    rw [hd]
    clear hr en hd hcw HK HSx HSy
    go_wp2_with fail
    go_region
    all_goals
     go_wp2_with fail
     go_ret
     exact ⟨by rw [HR.out];rfl,below_drewN' HB.out 1⟩
  · have hd:decide (n1≠n2)=true:=decide_eq_true en
    have HR:Hid (r=decide (n2 < n1)):=Lib.hid (by rw [Bool.eq_iff_iff,hr,decide_eq_true_iff];omega)
    rw [hd]
    clear hr en hd
    have hbd0:=below_drew' hcw
    have HB:=Lib.hid hcw
    clear hcw
    go_upto_region 2 with (fail)
    go_cut [6] (fun s wx=>s=.bool (decide (n2 < n1))∧Below W0.heap.size W0 wx)
    case first=>
     go_region_held3 (fun w'=>(w'.cell? ⟨g,i*4,none⟩=some (.int .i64 (l1:Int))∧w'.cell? ⟨g,i*4+1,none⟩=some (.int .i64 e1)∧w'.cell? ⟨g,i*4+2,none⟩=some (.int .i64 (a1:Int))∧w'.cell? ⟨g,i*4+3,none⟩=some (.int .i64 (b1:Int)))∧(w'.cell? ⟨g,j*4,none⟩=some (.int .i64 (l2:Int))∧w'.cell? ⟨g,j*4+1,none⟩=some (.int .i64 e2)∧w'.cell? ⟨g,j*4+2,none⟩=some (.int .i64 (a2:Int))∧w'.cell? ⟨g,j*4+3,none⟩=some (.int .i64 (b2:Int)))∧Below W0.heap.size W0 w')
      ((first
        | exact HK.out _ hbd0
        | exact HK.out _ hC1
        | exact HK.out _ hC2))
      (first
        | (go_at_call 153;(with_reducible refine (HSx.out _).mono ?_);rintro e x1 ⟨rfl,hc1⟩;have hC1:=hbd0.trans (hc1.mono hbd0.size))
        | (go_at_call 153;(with_reducible refine (HSy.out _).mono ?_);rintro e x2 ⟨rfl,hc2⟩;have hC2:=hC1.trans (hc2.mono hC1.size)))
     all_goals
      go_wp2_with fail
      go_meet
      refine ⟨?_,hC2⟩
      congr 1
      try (rw [Bool.eq_iff_iff,decide_eq_true_iff,decide_eq_true_iff];omega)
    case rest=>
     obtain ⟨rfl,hcx⟩:=hcut
     go_wp2_with fail
     go_ret
     exact ⟨by rw [HR.out];rfl,hcx⟩
end Go.Proofs.YtcidobpbepeakaaGreat
namespace Go.Proofs.YtcidobpbepeakaaGreat
open Go.RowKit
def set4 (w:World) (g j:Nat) (x:Pt):World:=(((w.setCell ⟨g,j,none⟩ (.int .i64 (x.lv:Int))).setCell ⟨g,j+1,none⟩ (.int .i64 x.le)).setCell ⟨g,j+2,none⟩ (.int .i64 (x.a:Int))).setCell ⟨g,j+3,none⟩ (.int .i64 (x.b:Int))
theorem set4_owns {w:World} {B g m c:Nat} {Q:Nat→Pt} (h:w.ownsRow B 167 4 (.slice (some ⟨g,0,none⟩) m c) m (qcells Q m)) {i:Nat} (hi:i < m) (x:Pt):(set4 w g (i*4) x).ownsRow B 167 4 (.slice (some ⟨g,0,none⟩) m c) m (qcells (upQ Q i x) m):=by
 rw [←qcells_put Q i x m hi]
 exact owns_put4 (owns_put4 (owns_put4 (owns_put4 h _ _) _ _) _ _) _ _
theorem OffB.setCell {F:Nat→Prop} {w w':World} (h:OffB F w w') {p:Addr} (hp:F p.block) (u:Value):OffB F w (w'.setCell p u):=
 ⟨h.os,h.tape,h.output,by simpa [World.setCell] using h.size,fun k hk hn=>(Below.heap_setCell w' p u k (fun e=>hn (by rw [e];exact hp))).trans (h.block k hk hn)⟩
theorem OffB.drewN' {F:Nat→Prop} {w w':World} (h:OffB F w w') (k:Nat):OffB F w (w'.drewN k):=⟨h.os,h.tape,h.output,h.size,h.block⟩
theorem set4_off {F:Nat→Prop} {w w':World} (h:OffB F w w') {g:Nat} (hg:F g) (j:Nat) (x:Pt):OffB F w (set4 w' g j x):=(((h.setCell (p:=⟨g,j,none⟩) hg _).setCell (p:=⟨g,j+1,none⟩) hg _).setCell (p:=⟨g,j+2,none⟩) hg _).setCell (p:=⟨g,j+3,none⟩) hg _
theorem owns_drewN4 {w:World} {B n c g:Nat} {t:TypeId} {cs:List Value} (h:w.ownsRow B t 4 (.slice (some ⟨g,0,none⟩) n c) n cs) (k:Nat):(w.drewN k).ownsRow B t 4 (.slice (some ⟨g,0,none⟩) n c) n cs:=h
theorem hpSwap_any {w:World} {B g m c:Nat} {Q:Nat→Pt} (h:w.ownsRow B 167 4 (.slice (some ⟨g,0,none⟩) m c) m (qcells Q m)) (i j:Nat) (hij:i≤j) (hj:j < m):Calls Tryz.prog 215 #[.slice (some ⟨g,0,none⟩) m c,.int .i64 (i:Int),.int .i64 (j:Int)] w fun e w'=>e=.returned (.tuple #[])∧w'.ownsRow B 167 4 (.slice (some ⟨g,0,none⟩) m c) m (qcells (swQ Q i j) m)∧OffB (fun k=>k=g) w w':=by
 have hi:i < m:=by omega
 have HH:=Lib.hid h
 have hm:m≤9223372036854775807:=by have:=owns_room4 h;unfold maxLen at this;omega
 have hci:(i:Int) < (m:Int):=by omega
 have hcj:(j:Int) < (m:Int):=by omega
 obtain ⟨y1,y2,y3,y4⟩:=owns_four h hj
 obtain ⟨p,hp⟩:∃p,i*4=p:=⟨_,rfl⟩
 obtain ⟨q,hq⟩:∃q,j*4=q:=⟨_,rfl⟩
 have g1:=owns_free4 h q
 have g2:=owns_free4 h (q+1)
 have g3:=owns_free4 h (q+2)
 have g4:=owns_free4 h (q+3)
 have HN:Hid (∀k,(((set4 (set4 w g p (Q j)) g q (Q i)).drewN k).ownsRow B 167 4 (.slice (some ⟨g,0,none⟩) m c) m (qcells (swQ Q i j) m)∧OffB (fun k=>k=g) w ((set4 (set4 w g p (Q j)) g q (Q i)).drewN k))):=Lib.hid fun k=>by
  rw [←hp,←hq]
  exact ⟨owns_drewN4 (set4_owns (set4_owns h hi _) hj _) k,(set4_off (F:=fun k=>k=g) (set4_off (F:=fun k=>k=g) (OffB.refl _ w) rfl _ _) rfl _ _).drewN' k⟩
 unfold set4 at HN
 by_cases e:i=j
 · subst e
   obtain rfl:p=q:=by omega
   have hx:i*4=p:=hp
   rw [hx] at y1 y2 y3 y4
   clear h hij hi hj hp hq
   generalize Q i=x at*
   obtain ⟨l1,e1,a1,b1⟩:=x
   dsimp only at*
   go_enter Tryz.func215,Tryz.ntmps215
   go_wp2_with fail
   go_region
   all_goals
    go_wp2_with fail
    go_returns
    exact ⟨rfl,HN.out 1⟩
 · obtain ⟨x1,x2,x3,x4⟩:=owns_four h hi
   have f1:=owns_free4 h p
   have f2:=owns_free4 h (p+1)
   have f3:=owns_free4 h (p+2)
   have f4:=owns_free4 h (p+3)
   have hpq:p+4≤q:=by omega
   have hx:i*4=p:=hp
   have hy:j*4=q:=hq
   rw [hx] at x1 x2 x3 x4
   rw [hy] at y1 y2 y3 y4
   have n1:¬q=p:=by omega
   have n2:¬q=p+1:=by omega
   have n3:¬q=p+2:=by omega
   have n4:¬q=p+3:=by omega
   have n5:¬q+1=p:=by omega
   have n6:¬q+2=p:=by omega
   have n7:¬q+3=p:=by omega
   clear h hij hi hj hp hq
   generalize Q i=x at*
   generalize Q j=y at*
   obtain ⟨l1,e1,a1,b1⟩:=x
   obtain ⟨l2,e2,a2,b2⟩:=y
   dsimp only at*
   go_enter Tryz.func215,Tryz.ntmps215
   go_wp2_with fail
   go_region
   all_goals
    go_wp2_with fail
    go_returns
    exact ⟨rfl,HN.out 1⟩
end Go.Proofs.YtcidobpbepeakaaGreat
namespace Go.Proofs.YtcidobpbepeakaaGreat
open Go.RowKit
structure Hp (w:World) (B g:Nat) (lv v:Value) (m:Nat) (Q:Nat→Pt):Prop where
 head:Lies w g 163 [lv,v]
 row:w.ownsRow B 167 4 v m (qcells Q m)
def FT (g:Nat) (v:Value):Nat→Prop:=fun k=>k=g∨v.ownBlock=some k
theorem owns_offB {w:World} {B n s g:Nat} {t t':TypeId} {v:Value} {cs cs':List Value} (h:w.ownsRow B t s v n cs) (hl:Lies w g t' cs') (hne:t≠t'):v.ownBlock≠some g:=by
 rcases h.2 with ⟨e,_⟩ | ⟨g',cap,cur,e,_,hh,_⟩
 · rw [e]
   exact fun h=>by cases h
 · rw [e]
   intro q
   have q:some g'=some g:=q
   cases q
   unfold Lies at hl
   rw [hh] at hl
   injection hl with hl
   injection hl with _ hl _
   exact hne hl
theorem hp_put {w1:World} {B g m':Nat} {lv v v':Value} {Q':Nat→Pt} (hl:Lies w1 g 163 [lv,v]) (hr:w1.ownsRow B 167 4 v' m' (qcells Q' m')):Hp (w1.setCell ⟨g,1,none⟩ v') B g lv v' m' Q':=
 ⟨hl.put 1 v',hr.kept (grownBy_put (grownBy_of_below (Below.refl w1.heap.size w1) (some g)) 1 v') (.inr (owns_offB hr hl (by decide)))⟩
theorem OffB.of_grown {b:Option Nat} {w w':World} (h:w.grownBy w' b):OffB (fun k=>b=some k) w w':=⟨h.os,h.tape,h.output,h.size,fun k hk hn=>h.block k hk fun e=>hn e.symm⟩
theorem qcells_push (Q:Nat→Pt) (m:Nat) (x:Pt):qcells Q m++[.int .i64 (x.lv:Int),.int .i64 x.le,.int .i64 (x.a:Int),.int .i64 (x.b:Int)]=qcells (upQ Q m x) (m+1):=by
 show _=qcells (upQ Q m x) m++_
 rw [upQ_at,←qcells_alike (Q:=Q) (Q':=upQ Q m x) fun j hj=>(upQ_off _ _ (by omega)).symm]
theorem info4:∃i0,Tryz.prog.info? 167=some i0∧i0.zero=some (.agg #[.int .i64 0,.int .i64 0,.int .i64 0,.int .i64 0])∧i0.size=4∧i0.bytes=32:=info_parts info_pt
theorem run_assert_pt (u:Value) (w:World):(Instr.typeAssert (.iface 167 u) 20 167 false).run Tryz.prog w=.ok u w:=by kernel_rfl
theorem hpPut_any {w:World} {B g m:Nat} {lv v:Value} {Q:Nat→Pt} (h:Hp w B g lv v m Q) (hB:B≤w.heap.size) (hm:m≤4194304) (x:Pt):Calls Tryz.prog 217 #[.pointer (some ⟨g,1,none⟩),.iface 167 (ptV x)] w fun e w'=>e=.returned (.tuple #[])∧∃v',Hp w' B g lv v' (m+1) (upQ Q m x)∧OffB (FT g v) w w'∧(∀k,FT g v' k→FT g v k∨w.heap.size≤k):=by
 obtain ⟨i0,hi0,hz0,hs0,hb0⟩:=info4
 have hc1:w.cell? ⟨g,1,none⟩=some v:=h.head.cell 1
 have hne:=owns_offB h.row h.head (by decide)
 have lg:=h.head.lt
 unfold ptV
 obtain ⟨l1,e1,a1,b1⟩:=x
 dsimp only at*
 have hta:=fun w=>run_assert_pt (.agg #[.int .i64 (l1:Int),.int .i64 e1,.int .i64 (a1:Int),.int .i64 (b1:Int)]) w
 go_enter Tryz.func217,Tryz.ntmps217
 go_wp2_with fail
 go_region_law
  ((refine step_append_lies _ (by rfl) _ _ _ (by rfl) B 167 i0 _ 4 32 Tryz.underlying161 hi0 hz0 hs0 hb0 rfl (by omega) v m (qcells Q m) (by rfl) ((h.row.alloc _).drew)
      ⟨w.heap.size,0,none⟩ 1 1 [.int .i64 (l1:Int),.int .i64 e1,.int .i64 (a1:Int),.int .i64 (b1:Int)] (by rfl) (by rfl) (World.news_of_block (cs:=#[.int .i64 (l1:Int),.int .i64 e1,.int .i64 (a1:Int),.int .i64 (b1:Int)]) (t:=167) (fr:=(0,0)) (heap_alloc_new w _)) (by simp [Value.oneCell'])
      (by omega) (by unfold maxLen;omega) (by omega) (by simp;omega) (w.heap.size+1) (by simp) ?_;intro gg cap w1 hown1 hgrow hat hlt1;have hfz:w1.frozen? ⟨g,1,none⟩=false:=(World.frozen?_of_block (a:=⟨g,1,none⟩) (hgrow.block g (by simp;omega) (Ne.symm hne))).trans (((h.head.alloc _).drew).free 1);have hcx:w1.cell? ⟨g,1,none⟩=some v:=(World.cell?_of_block (a:=⟨g,1,none⟩) (hgrow.block g (by simp;omega) (Ne.symm hne))).trans (((h.head.alloc _).drew).cell 1)))
 all_goals
  go_wp2_with fail
  go_returns
  have hrow:w1.ownsRow B 167 4 (.slice (some ⟨gg,0,none⟩) (m+1) cap) (m+1) (qcells (upQ Q m ⟨l1,e1,a1,b1⟩) (m+1)):=(qcells_push Q m ⟨l1,e1,a1,b1⟩)▸hown1
  have hl1:Lies w1 g 163 [lv,v]:=((h.head.alloc _).drew).grown hgrow (Ne.symm hne)
  have ho:OffB (FT g v) w w1:=OffB.trans (OffB.of_below (below_drew' ((Below.refl _ _).alloc (Nat.le_refl _) _))) (OffB.of_grown hgrow) (fun k hk=>.inl (.inr hk))
  refine ⟨rfl,_,hp_put hl1 hrow,ho.setCell (p:=⟨g,1,none⟩) (.inl rfl) _,fun k hk=>?_⟩
  rcases hk with hk | hk
  · exact .inl (.inl hk)
  · have hk:some gg=some k:=hk
    injection hk with hk
    subst hk
    rcases hat with h1 | h1
    · exact .inl (.inr h1)
    · exact .inr (by omega)
end Go.Proofs.YtcidobpbepeakaaGreat
namespace Go.Proofs.YtcidobpbepeakaaGreat
open Go.RowKit
section
variable {w w':World} {B g m:Nat} {lv v:Value} {Q:Nat→Pt}
theorem Hp.below (h:Hp w B g lv v m Q) (hb:Below w.heap.size w w'):Hp w' B g lv v m Q:=⟨h.head.below hb h.head.lt,h.row.kept (grownBy_of_below hb none) (by
 rcases h.row.2 with ⟨e,_⟩ | ⟨g',cap,cur,e,_⟩
 · exact .inl (by rw [e];rfl)
 · exact .inr (by rw [e];exact fun h=>by cases h))⟩
end
theorem hpLast_any {w:World} {B g m:Nat} {lv v:Value} {Q:Nat→Pt} (h:Hp w B g lv v (m+1) Q) (hm:m≤4194304):Calls Tryz.prog 216 #[.pointer (some ⟨g,1,none⟩)] w fun e w'=>e=.returned (.iface 167 (ptV (Q m)))∧∃v',Hp w' B g lv v' m Q∧OffB (FT g v) w w'∧v'.ownBlock=v.ownBlock:=by
 rcases owns_slice4 h.row with ⟨h0,_⟩ | ⟨gq,c,rfl,hg1,hg2⟩
 · omega
 have hc1:w.cell? ⟨g,1,none⟩=some (.slice (some ⟨gq,0,none⟩) (m+1) c):=h.head.cell 1
 have hrm:=owns_room4 h.row
 have hcm:c≤9223372036854775807:=by unfold maxLen at hrm;omega
 have hcl:m≤c:=by omega
 obtain ⟨x1,x2,x3,x4⟩:=owns_four h.row (Nat.lt_succ_self m)
 have HH:=Lib.hid h
 have hlast:IntKind.i64.wrap (((m+1:Nat):Int) - 1)=(m:Int):=by rw [IntWalk.i64_in _ (by omega)];omega
 have hci:(m:Int) < ((m+1:Nat):Int):=by omega
 unfold ptV
 generalize Q m=x at x1 x2 x3 x4
 obtain ⟨l1,e1,a1,b1⟩:=x
 dsimp only at*
 have hf1:=h.head.free 1
 have lg:=h.head.lt
 clear h hrm
 go_enter Tryz.func216,Tryz.ntmps216
 go_wp2_with fail
 go_returns
 exact ⟨rfl,_,(hp_put HH.out.head (ownsRow_pop (qcells_len Q m) HH.out.row)).below ((Below.refl _ _).alloc (Nat.le_refl _) _),OffB.trans ((OffB.refl (FT g (.slice (some ⟨gq,0,none⟩) (m+1) c)) w).setCell (p:=⟨g,1,none⟩) (Or.inl rfl) _) (OffB.of_below (F:=fun _=>False) ((Below.refl _ _).alloc (Nat.le_refl _) _)) (fun _ h=>h.elim),rfl⟩
theorem takeQ_all {P:Pt→Prop} {Q Q':Nat→Pt} {m:Nat} (h:(takeQ Q' m).Perm (takeQ Q m)) (hP:∀j,j < m→P (Q j)):∀j,j < m→P (Q' j):=fun j hj=>by
 obtain ⟨k,hk,e⟩:=takeQ_mem.1 (h.mem_iff.1 (takeQ_mem.2 ⟨j,hj,rfl⟩))
 rw [←e]
 exact hP k hk
def Fine (x:Pt):Prop:=x.a≤x.b∧x.b≤4194304
section
variable {w w':World} {B g m:Nat} {lv v:Value} {Q:Nat→Pt}
theorem Hp.c1 (h:Hp w B g lv v m Q):w.cell? ⟨g,1,none⟩=some v:=h.head.cell 1
theorem Hp.swapped {c gq:Nat} {Q':Nat→Pt} (h:Hp w B g lv (.slice (some ⟨gq,0,none⟩) m c) m Q) (hr:w'.ownsRow B 167 4 (.slice (some ⟨gq,0,none⟩) m c) m (qcells Q' m)) (ho:OffB (fun k=>k=gq) w w'):Hp w' B g lv (.slice (some ⟨gq,0,none⟩) m c) m Q':=⟨ho.lies h.head fun e=>owns_offB h.row h.head (by decide) (by rw [e];rfl),hr⟩
theorem par_tdiv (j:Nat) (hj:j≤9223372036854775807):Int.tdiv ((j:Int) - 1) 2=((parI j:Nat):Int):=by
 unfold parI
 by_cases h:j=0
 · subst h
   rfl
 · rw [Int.tdiv_eq_ediv_of_nonneg (by omega)]
   omega
theorem hpUp_any (h:Hp w B g lv v m Q) (hm:m≤4194304) (hok:∀i,i < m→Fine (Q i)) (j0:Nat) (hj0:j0 < m) (hu:UpIn Q m j0):Calls Tryz.prog 181 #[.iface 194 (.pointer (some ⟨g,1,none⟩)),.int .i64 (j0:Int)] w fun e w'=>e=.returned (.tuple #[])∧∃Q',Hp w' B g lv v m Q'∧IsHp Q' m∧(takeQ Q' m).Perm (takeQ Q m)∧OffB (FT g v) w w':=by
 rcases owns_slice4 h.row with ⟨h0,_⟩ | ⟨gq,c,rfl,hg1,hg2⟩
 · omega
 obtain ⟨w0,hw0⟩:∃w0,w=w0:=⟨_,rfl⟩
 have HO:Hid (OffB (FT g (.slice (some ⟨gq,0,none⟩) m c)) w0 w):=Lib.hid (hw0▸OffB.refl _ _)
 have HK:=Lib.hid h
 have HU:=Lib.hid hu
 have HP:=Lib.hid (List.Perm.refl (takeQ Q m))
 have HOk:=Lib.hid hok
 clear h hu hok
 suffices hs:Calls Tryz.prog 181 #[.iface 194 (.pointer (some ⟨g,1,none⟩)),.int .i64 (j0:Int)] w fun e w'=>e=.returned (.tuple #[])∧∃Q',Hp w' B g lv (.slice (some ⟨gq,0,none⟩) m c) m Q'∧IsHp Q' m∧(takeQ Q' m).Perm (takeQ Q m)∧OffB (FT g (.slice (some ⟨gq,0,none⟩) m c)) w0 w' by rw [←hw0] at hs;exact hs
 clear hw0
 go_enter Tryz.func181,Tryz.ntmps181
 go_wp2_with fail
 go_loopw [1] (fun s wr=>∃(j:Nat) (Q':Nat→Pt),j < m∧s=.int .i64 (j:Int)∧Hid (Hp wr B g lv (.slice (some ⟨gq,0,none⟩) m c) m Q')∧Hid (UpIn Q' m j)∧Hid ((takeQ Q' m).Perm (takeQ Q m))∧Hid (OffB (FT g (.slice (some ⟨gq,0,none⟩) m c)) w0 wr)) (fun s _=>(intOf s).toNat)
 case atStart=>exact ⟨j0,Q,hj0,rfl,HK,HU,HP,HO⟩
 case round=>
  clear HO HK HU HP
  obtain ⟨j,Q',hj,rfl,hK,hU,hP,hO⟩:=hrel
  have hdiv:=par_tdiv j (by omega)
  have hokj:=takeQ_all hP.out HOk.out
  have hpl:j=0∨parI j < j:=by
   rcases Nat.eq_zero_or_pos j with h | h
   · exact .inl h
   · exact .inr (parI_lt h)
  by_cases hz:j=0
  · have hp0:parI j=j:=by rw [hz];rfl
    rw [hp0] at hdiv
    have hH:=Lib.hid (hU.out.stop (.inl hz))
    clear hp0 hpl
    have e1:((j:Int)==(j:Int))=true:=by rw [beq_iff_eq]
    clear hokj hz
    go_wp2_with fail
    go_returns
    exact ⟨rfl,Q',hK.out,hH.out,hP.out,hO.out⟩
  · have hpj:parI j < j:=by omega
    obtain ⟨p,hp⟩:∃p,parI j=p:=⟨_,rfl⟩
    rw [hp] at hdiv hpj
    have e1:((p:Int)==(j:Int))=false:=by rw [beq_eq_false_iff_ne];omega
    have e2:¬(p:Int)=(j:Int):=by omega
    have e3:¬p=j:=by omega
    have hM:=Lib.hid (meths hK.out.c1)
    have hless:=hM.out.less
    have hfj:=hokj j hj
    have hfp:=hokj p (by omega)
    have hgo:Hid (Hp wr B g lv (.slice (some ⟨gq,0,none⟩) m c) m Q'∧OffB (FT g (.slice (some ⟨gq,0,none⟩) m c)) w0 wr):=Lib.hid ⟨hK.out,hO.out⟩
    by_cases hA:Ahd (Q' j) (Q' p)
    · have HL:=Lib.hid (hpLess_any hK.out.row j p hj (by omega) hfj hfp true ⟨fun _=>hA,fun _=>rfl⟩)
      have HU2:=Lib.hid (hU.out.step (by omega) hj (by rw [hp];exact hA))
      rw [hp] at HU2
      have HP2:=Lib.hid ((takeQ_sw Q' (show p < m by omega) hj).trans hP.out)
      clear hokj hpl hz hp hfj hfp hA hP hU hM
      go_wp2_with (first
       | (go_at_call 214;(with_reducible refine HL.out.mono ?_);rintro e w1 ⟨rfl,hb1⟩;have hK1:=Lib.hid (hgo.out.1.below hb1);have hswap:=(meths hK1.out.c1).swap;have HS:=Lib.hid (hpSwap_any hK1.out.row p j (by omega) hj))
       | (go_at_call 215;(with_reducible refine HS.out.mono ?_);rintro e w2 ⟨rfl,hr2,ho2⟩;have hK2:=Lib.hid (hK1.out.swapped hr2 ho2);have hO2:=Lib.hid ((hgo.out.2.trans (OffB.of_below (F:=fun _=>False) hb1) (fun _ h=>h.elim)).trans (ho2.wider (F':=FT g (.slice (some ⟨gq,0,none⟩) m c)) (fun k e=>Or.inr (by rw [e];rfl))) (fun k h=>Or.inl h))))
      go_roundw
      case rel=>exact ⟨p,swQ Q' p j,by omega,rfl,hK2,HU2,HP2,hO2⟩
      case measure=>simp [intOf];omega
    · have HL:=Lib.hid (hpLess_any hK.out.row j p hj (by omega) hfj hfp false ⟨fun h=>(by cases h),fun h=>absurd h hA⟩)
      have HH2:=Lib.hid (hU.out.stop (.inr (by rw [hp];exact hA)))
      clear hokj hpl hz hp hfj hfp hA hU hM
      go_wp2_with (first
       | (go_at_call 214;(with_reducible refine HL.out.mono ?_);rintro e w1 ⟨rfl,hb1⟩;have hK1:=Lib.hid (hgo.out.1.below hb1)))
      go_returns
      exact ⟨rfl,Q',hK1.out,HH2.out,hP.out,hgo.out.2.trans (OffB.of_below (F:=fun _=>False) hb1) (fun _ h=>h.elim)⟩
end
end Go.Proofs.YtcidobpbepeakaaGreat
namespace Go.Proofs.YtcidobpbepeakaaGreat
open Go.RowKit
section
variable {w w':World} {B g m n:Nat} {lv v:Value} {Q:Nat→Pt}
theorem hpDown_any (h:Hp w B g lv v (n+1) Q) (hm:n≤4194304) (hok:∀i,i < n+1→Fine (Q i)) (hd:DnIn Q n 0):Calls Tryz.prog 182 #[.iface 194 (.pointer (some ⟨g,1,none⟩)),.int .i64 0,.int .i64 (n:Int)] w fun e w'=>(∃r,e=.returned (.bool r))∧∃Q',Hp w' B g lv v (n+1) Q'∧IsHp Q' n∧(takeQ Q' n).Perm (takeQ Q n)∧Q' n=Q n∧OffB (FT g v) w w':=by
 rcases owns_slice4 h.row with ⟨h0,_⟩ | ⟨gq,c,rfl,hg1,hg2⟩
 · omega
 obtain ⟨w0,hw0⟩:∃w0,w=w0:=⟨_,rfl⟩
 have HO:Hid (OffB (FT g (.slice (some ⟨gq,0,none⟩) (n+1) c)) w0 w):=Lib.hid (hw0▸OffB.refl _ _)
 have HK:=Lib.hid h
 have HU:=Lib.hid hd
 have HOk:=Lib.hid hok
 clear h hd hok
 suffices hs:Calls Tryz.prog 182 #[.iface 194 (.pointer (some ⟨g,1,none⟩)),.int .i64 0,.int .i64 (n:Int)] w fun e w'=>(∃r,e=.returned (.bool r))∧∃Q',Hp w' B g lv (.slice (some ⟨gq,0,none⟩) (n+1) c) (n+1) Q'∧IsHp Q' n∧(takeQ Q' n).Perm (takeQ Q n)∧Q' n=Q n∧OffB (FT g (.slice (some ⟨gq,0,none⟩) (n+1) c)) w0 w' by rw [←hw0] at hs;exact hs
 clear hw0
 go_enter Tryz.func182,Tryz.ntmps182
 go_wp2_with fail
 go_loopw [7] (fun s wr=>∃(i:Nat) (Q':Nat→Pt),i≤n∧s=.int .i64 (i:Int)∧Hid (Hp wr B g lv (.slice (some ⟨gq,0,none⟩) (n+1) c) (n+1) Q')∧Hid (DnIn Q' n i)∧Hid ((takeQ Q' n).Perm (takeQ Q n)∧Q' n=Q n)∧Hid (OffB (FT g (.slice (some ⟨gq,0,none⟩) (n+1) c)) w0 wr)) (fun s _=>n - (intOf s).toNat)
 case atStart=>exact ⟨0,Q,Nat.zero_le _,rfl,HK,HU,Lib.hid ⟨List.Perm.refl _,rfl⟩,HO⟩
 case round=>
  clear HO HK HU
  obtain ⟨i,Q',hi,rfl,hK,hU,hP,hO⟩:=hrel
  have hokj:∀k,k < n+1→Fine (Q' k):=fun k hk=>by
   by_cases e:k=n
   · rw [e,hP.out.2]
     exact HOk.out n (Nat.lt_succ_self n)
   · exact takeQ_all hP.out.1 (fun k hk=>HOk.out k (by omega)) k (by omega)
  obtain ⟨j1,hj1⟩:∃j1,2*i+1=j1:=⟨_,rfl⟩
  have e1:2*(i:Int)+1=(j1:Int):=by omega
  obtain ⟨j2,hj2⟩:∃j2,j1+1=j2:=⟨_,rfl⟩
  have e4:(j1:Int)+1=(j2:Int):=by omega
  have hO0:Hid (Hp wr B g lv (.slice (some ⟨gq,0,none⟩) (n+1) c) (n+1) Q'∧OffB (FT g (.slice (some ⟨gq,0,none⟩) (n+1) c)) w0 wr):=Lib.hid ⟨hK.out,hO.out⟩
  by_cases hj1n:j1 < n
  · have e2:¬(n:Int)≤(j1:Int):=by omega
    have e3:¬(j1:Int) < 0:=by omega
    have hless:=(meths hK.out.c1).less
    by_cases h2n:j2 < n
    · have e5:(j2:Int) < (n:Int):=by omega
      have hF1:=hokj j1 (by omega)
      have hF2:=hokj j2 (by omega)
      by_cases hA1:Ahd (Q' j2) (Q' j1)
      · have HL1:=Lib.hid (hpLess_any hK.out.row j2 j1 (by omega) (by omega) hF2 hF1 true ⟨fun _=>hA1,fun _=>rfl⟩)
        have hbest:∀c,(c=2*i+1∨c=2*i+2)→c < n→¬Ahd (Q' c) (Q' j2):=fun c hc _=>by
         rcases hc with rfl | rfl
         · rw [hj1];exact hA1.not
         · rw [show 2*i+2=j2 by omega];exact Ahd.irr
        have hJ:j2 < n+1:=by omega
        have hJn:j2 < n:=by omega
        have hI2:i < n+1:=by omega
        have hIJ:i≤j2:=by omega
        have hIl:i < j2:=by omega
        have hFJ:=hokj j2 hJ
        have hFI:=hokj i hI2
        by_cases hA2:Ahd (Q' j2) (Q' i)
        · have HU2:=Lib.hid (hU.out.step (j:=j2) (by omega) (by omega) hbest hA2)
          have HP2:Hid ((takeQ (swQ Q' i j2) n).Perm (takeQ Q n)∧swQ Q' i j2 n=Q n):=Lib.hid ⟨(takeQ_sw Q' (by omega) hJn).trans hP.out.1,by rw [swQ_off _ (by omega) (by omega)];exact hP.out.2⟩
          clear hokj hbest hj1 hj2 hU hP
          go_wp2_with (first
           | (go_at_call 214;(with_reducible refine HL1.out.mono ?_);rintro e w1 ⟨rfl,hb1⟩;have hK1:=Lib.hid (hO0.out.1.below hb1);have hless1:=(meths hK1.out.c1).less;have HL2:=Lib.hid (hpLess_any hK1.out.row j2 i hJ hI2 hFJ hFI true ⟨fun _=>hA2,fun _=>rfl⟩);have hB1:=Lib.hid (hO0.out.2.trans (OffB.of_below (F:=fun _=>False) hb1) (fun _ h=>h.elim)))
           | (go_at_call 214;(with_reducible refine HL2.out.mono ?_);rintro e w2 ⟨rfl,hb2⟩;have hK2:=Lib.hid (hK1.out.below hb2);have hswap:=(meths hK2.out.c1).swap;have HS:=Lib.hid (hpSwap_any hK2.out.row i j2 hIJ hJ);have hB2:=Lib.hid (hB1.out.trans (OffB.of_below (F:=fun _=>False) hb2) (fun _ h=>h.elim)))
           | (go_at_call 215;(with_reducible refine HS.out.mono ?_);rintro e w3 ⟨rfl,hr3,ho3⟩;have hK3:=Lib.hid (hK2.out.swapped hr3 ho3);have hO3:=Lib.hid (hB2.out.trans (ho3.wider (F':=FT g (.slice (some ⟨gq,0,none⟩) (n+1) c)) (fun k e=>Or.inr (by rw [e];rfl))) (fun k h=>Or.inl h))))
          go_roundw
          case rel=>exact ⟨j2,swQ Q' i j2,by omega,(by first | rfl | go_num),hK3,HU2,HP2,hO3⟩
          case measure=>simp [intOf];omega
        · have HH2:=Lib.hid (hU.out.stop fun c hc hcn=>nAhd_trans (hbest c hc hcn) hA2)
          clear hokj hbest hj1 hj2 hU
          go_wp2_with (first
           | (go_at_call 214;(with_reducible refine HL1.out.mono ?_);rintro e w1 ⟨rfl,hb1⟩;have hK1:=Lib.hid (hO0.out.1.below hb1);have hless1:=(meths hK1.out.c1).less;have HL2:=Lib.hid (hpLess_any hK1.out.row j2 i hJ hI2 hFJ hFI false ⟨fun h=>(by cases h),fun h=>absurd h hA2⟩);have hB1:=Lib.hid (hO0.out.2.trans (OffB.of_below (F:=fun _=>False) hb1) (fun _ h=>h.elim)))
           | (go_at_call 214;(with_reducible refine HL2.out.mono ?_);rintro e w2 ⟨rfl,hb2⟩;have hK2:=Lib.hid (hK1.out.below hb2);have hswap:=(meths hK2.out.c1).swap;have HS:=Lib.hid (hpSwap_any hK2.out.row i j2 hIJ hJ);have hB2:=Lib.hid (hB1.out.trans (OffB.of_below (F:=fun _=>False) hb2) (fun _ h=>h.elim))))
          go_returns
          exact ⟨⟨_,rfl⟩,Q',hK2.out,HH2.out,hP.out.1,hP.out.2,hB2.out⟩
      · have HL1:=Lib.hid (hpLess_any hK.out.row j2 j1 (by omega) (by omega) hF2 hF1 false ⟨fun h=>(by cases h),fun h=>absurd h hA1⟩)
        have hbest:∀c,(c=2*i+1∨c=2*i+2)→c < n→¬Ahd (Q' c) (Q' j1):=fun c hc _=>by
         rcases hc with rfl | rfl
         · rw [hj1];exact Ahd.irr
         · rw [show 2*i+2=j2 by omega];exact hA1
        have hJ:j1 < n+1:=by omega
        have hJn:j1 < n:=by omega
        have hI2:i < n+1:=by omega
        have hIJ:i≤j1:=by omega
        have hIl:i < j1:=by omega
        have hFJ:=hokj j1 hJ
        have hFI:=hokj i hI2
        by_cases hA2:Ahd (Q' j1) (Q' i)
        · have HU2:=Lib.hid (hU.out.step (j:=j1) (by omega) (by omega) hbest hA2)
          have HP2:Hid ((takeQ (swQ Q' i j1) n).Perm (takeQ Q n)∧swQ Q' i j1 n=Q n):=Lib.hid ⟨(takeQ_sw Q' (by omega) hJn).trans hP.out.1,by rw [swQ_off _ (by omega) (by omega)];exact hP.out.2⟩
          clear hokj hbest hj1 hj2 hU hP
          go_wp2_with (first
           | (go_at_call 214;(with_reducible refine HL1.out.mono ?_);rintro e w1 ⟨rfl,hb1⟩;have hK1:=Lib.hid (hO0.out.1.below hb1);have hless1:=(meths hK1.out.c1).less;have HL2:=Lib.hid (hpLess_any hK1.out.row j1 i hJ hI2 hFJ hFI true ⟨fun _=>hA2,fun _=>rfl⟩);have hB1:=Lib.hid (hO0.out.2.trans (OffB.of_below (F:=fun _=>False) hb1) (fun _ h=>h.elim)))
           | (go_at_call 214;(with_reducible refine HL2.out.mono ?_);rintro e w2 ⟨rfl,hb2⟩;have hK2:=Lib.hid (hK1.out.below hb2);have hswap:=(meths hK2.out.c1).swap;have HS:=Lib.hid (hpSwap_any hK2.out.row i j1 hIJ hJ);have hB2:=Lib.hid (hB1.out.trans (OffB.of_below (F:=fun _=>False) hb2) (fun _ h=>h.elim)))
           | (go_at_call 215;(with_reducible refine HS.out.mono ?_);rintro e w3 ⟨rfl,hr3,ho3⟩;have hK3:=Lib.hid (hK2.out.swapped hr3 ho3);have hO3:=Lib.hid (hB2.out.trans (ho3.wider (F':=FT g (.slice (some ⟨gq,0,none⟩) (n+1) c)) (fun k e=>Or.inr (by rw [e];rfl))) (fun k h=>Or.inl h))))
          go_roundw
          case rel=>exact ⟨j1,swQ Q' i j1,by omega,(by first | rfl | go_num),hK3,HU2,HP2,hO3⟩
          case measure=>simp [intOf];omega
        · have HH2:=Lib.hid (hU.out.stop fun c hc hcn=>nAhd_trans (hbest c hc hcn) hA2)
          clear hokj hbest hj1 hj2 hU
          go_wp2_with (first
           | (go_at_call 214;(with_reducible refine HL1.out.mono ?_);rintro e w1 ⟨rfl,hb1⟩;have hK1:=Lib.hid (hO0.out.1.below hb1);have hless1:=(meths hK1.out.c1).less;have HL2:=Lib.hid (hpLess_any hK1.out.row j1 i hJ hI2 hFJ hFI false ⟨fun h=>(by cases h),fun h=>absurd h hA2⟩);have hB1:=Lib.hid (hO0.out.2.trans (OffB.of_below (F:=fun _=>False) hb1) (fun _ h=>h.elim)))
           | (go_at_call 214;(with_reducible refine HL2.out.mono ?_);rintro e w2 ⟨rfl,hb2⟩;have hK2:=Lib.hid (hK1.out.below hb2);have hswap:=(meths hK2.out.c1).swap;have HS:=Lib.hid (hpSwap_any hK2.out.row i j1 hIJ hJ);have hB2:=Lib.hid (hB1.out.trans (OffB.of_below (F:=fun _=>False) hb2) (fun _ h=>h.elim))))
          go_returns
          exact ⟨⟨_,rfl⟩,Q',hK2.out,HH2.out,hP.out.1,hP.out.2,hB2.out⟩
    · have e5:¬(j2:Int) < (n:Int):=by omega
      have hbest:∀c,(c=2*i+1∨c=2*i+2)→c < n→¬Ahd (Q' c) (Q' j1):=fun c hc hcn=>by
       rcases hc with rfl | rfl
       · rw [hj1];exact Ahd.irr
       · omega
      have hJ:j1 < n+1:=by omega
      have hJn:j1 < n:=by omega
      have hI2:i < n+1:=by omega
      have hIJ:i≤j1:=by omega
      have hIl:i < j1:=by omega
      have hFJ:=hokj j1 hJ
      have hFI:=hokj i hI2
      by_cases hA2:Ahd (Q' j1) (Q' i)
      · have HU2:=Lib.hid (hU.out.step (j:=j1) (by omega) (by omega) hbest hA2)
        have HP2:Hid ((takeQ (swQ Q' i j1) n).Perm (takeQ Q n)∧swQ Q' i j1 n=Q n):=Lib.hid ⟨(takeQ_sw Q' (by omega) hJn).trans hP.out.1,by rw [swQ_off _ (by omega) (by omega)];exact hP.out.2⟩
        have HL2:=Lib.hid (hpLess_any hO0.out.1.row j1 i hJ hI2 hFJ hFI true ⟨fun _=>hA2,fun _=>rfl⟩)
        have hK1:=Lib.hid hO0.out.1
        have hB1:=Lib.hid hO0.out.2
        clear hokj hbest hj1 hj2 hU hP
        go_wp2_with (first
         | (go_at_call 214;(with_reducible refine HL2.out.mono ?_);rintro e w2 ⟨rfl,hb2⟩;have hK2:=Lib.hid (hK1.out.below hb2);have hswap:=(meths hK2.out.c1).swap;have HS:=Lib.hid (hpSwap_any hK2.out.row i j1 hIJ hJ);have hB2:=Lib.hid (hB1.out.trans (OffB.of_below (F:=fun _=>False) hb2) (fun _ h=>h.elim)))
         | (go_at_call 215;(with_reducible refine HS.out.mono ?_);rintro e w3 ⟨rfl,hr3,ho3⟩;have hK3:=Lib.hid (hK2.out.swapped hr3 ho3);have hO3:=Lib.hid (hB2.out.trans (ho3.wider (F':=FT g (.slice (some ⟨gq,0,none⟩) (n+1) c)) (fun k e=>Or.inr (by rw [e];rfl))) (fun k h=>Or.inl h))))
        go_roundw
        case rel=>exact ⟨j1,swQ Q' i j1,by omega,(by first | rfl | go_num),hK3,HU2,HP2,hO3⟩
        case measure=>simp [intOf];omega
      · have HH2:=Lib.hid (hU.out.stop fun c hc hcn=>nAhd_trans (hbest c hc hcn) hA2)
        have HL2:=Lib.hid (hpLess_any hO0.out.1.row j1 i hJ hI2 hFJ hFI false ⟨fun h=>(by cases h),fun h=>absurd h hA2⟩)
        have hK1:=Lib.hid hO0.out.1
        have hB1:=Lib.hid hO0.out.2
        clear hokj hbest hj1 hj2 hU
        go_wp2_with (first
         | (go_at_call 214;(with_reducible refine HL2.out.mono ?_);rintro e w2 ⟨rfl,hb2⟩;have hK2:=Lib.hid (hK1.out.below hb2);have hswap:=(meths hK2.out.c1).swap;have HS:=Lib.hid (hpSwap_any hK2.out.row i j1 hIJ hJ);have hB2:=Lib.hid (hB1.out.trans (OffB.of_below (F:=fun _=>False) hb2) (fun _ h=>h.elim))))
        go_returns
        exact ⟨⟨_,rfl⟩,Q',hK2.out,HH2.out,hP.out.1,hP.out.2,hB2.out⟩
  · have e2:(n:Int)≤(j1:Int):=by omega
    have HH2:=Lib.hid (hU.out.stop fun c hc hcn=>by omega)
    clear hokj hj1 hj2 e4 hU
    go_wp2_with fail
    go_returns
    exact ⟨⟨_,rfl⟩,Q',hK.out,HH2.out,hP.out.1,hP.out.2,hO.out⟩
end
end Go.Proofs.YtcidobpbepeakaaGreat
namespace Go.Proofs.YtcidobpbepeakaaGreat
open Go.RowKit
section
variable {w w':World} {B g m n:Nat} {lv v:Value} {Q:Nat→Pt}
theorem hp_meth {ad:Addr} {w:World} {v:Value} (h:w.cell? ad=some v):(method 351 194 (.pointer (some ad)) "Len").run Tryz.prog w=.ok (213,v) w:=(meths h).len
def PushPost (w:World) (B g:Nat) (lv v:Value) (m:Nat) (Q:Nat→Pt) (x:Pt) (w':World):Prop:=∃v' Q',Hp w' B g lv v' (m+1) Q'∧IsHp Q' (m+1)∧(takeQ Q' (m+1)).Perm (takeQ Q m++[x])∧OffB (FT g v) w w'∧(∀k,FT g v' k→FT g v k∨w.heap.size≤k)
theorem hpPush_any (h:Hp w B g lv v m Q) (hB:B≤w.heap.size) (hm:m < 4194304) (hok:∀i,i < m→Fine (Q i)) (hh:IsHp Q m) (x:Pt) (hx:Fine x):Calls Tryz.prog 151 #[.iface 194 (.pointer (some ⟨g,1,none⟩)),.iface 167 (ptV x)] w fun e w'=>e=.returned (.tuple #[])∧PushPost w B g lv v m Q x w':=by
 have HP:=Lib.hid (hpPut_any h hB (by omega) x)
 have HU:=Lib.hid (UpIn.start hh x)
 have HF:Hid (∀i,i < m+1→Fine (upQ Q m x i)):=Lib.hid fun i hi=>by
  by_cases e:i=m
  · rw [e,upQ_at]
    exact hx
  · rw [upQ_off _ _ e]
    exact hok i (by omega)
 have HT:Hid (takeQ (upQ Q m x) (m+1)=takeQ Q m++[x]):=Lib.hid (by
  show takeQ (upQ Q m x) m++[upQ Q m x m]=_
  rw [upQ_at,takeQ_alike (Q:=upQ Q m x) (Q':=Q) fun j hj=>upQ_off _ _ (by omega)])
 have hlen:IntKind.i64.wrap (((m+1:Nat):Int) - 1)=(m:Int):=by rw [IntWalk.i64_in _ (by omega)];omega
 obtain ⟨px,hpx⟩:∃px,ptV x=px:=⟨_,rfl⟩
 rw [hpx] at HP ⊢
 clear hh hok h hpx
 go_enter Tryz.func151,Tryz.ntmps151
 go_wp2_with fail
 with_reducible refine HP.out.mono ?_
 rintro e w1 ⟨rfl,v1,h1,ho1,hf1⟩
 have hlm:=hp_meth h1.c1
 rcases owns_slice4 h1.row with ⟨h0,_⟩ | ⟨gq,c,rfl,hg1,hg2⟩
 · omega
 have HL:=Lib.hid (hpLen_any (some ⟨gq,0,none⟩) (m+1) c w1)
 have HUp:=Lib.hid (hpUp_any h1 (by omega) HF.out m (by omega) HU.out)
 have HO1:=Lib.hid ho1
 have HF1:=Lib.hid hf1
 clear h1 ho1 hf1
 go_wp2_with (first
  | (go_at_call 213;(with_reducible refine HL.out.mono ?_);rintro e w2 ⟨rfl,rfl⟩)
  | (go_at_call 181;(with_reducible refine HUp.out.mono ?_);rintro e w3 ⟨rfl,Q3,h3,h4,h5,h6⟩))
 go_returns
 exact ⟨rfl,_,Q3,h3,h4,HT.out▸h5,HO1.out.trans h6 HF1.out,HF1.out⟩
def PopPost (w:World) (B g:Nat) (lv v:Value) (m:Nat) (Q:Nat→Pt) (w':World):Prop:=∃v' Q',Hp w' B g lv v' m Q'∧IsHp Q' m∧(takeQ Q (m+1)).Perm (Q 0::takeQ Q' m)∧OffB (FT g v) w w'∧v'.ownBlock=v.ownBlock
theorem hpPop_any (h:Hp w B g lv v (m+1) Q) (hm:m < 4194304) (hok:∀i,i < m+1→Fine (Q i)) (hh:IsHp Q (m+1)):Calls Tryz.prog 152 #[.iface 194 (.pointer (some ⟨g,1,none⟩))] w fun e w'=>e=.returned (.iface 167 (ptV (Q 0)))∧PopPost w B g lv v m Q w':=by
 rcases owns_slice4 h.row with ⟨h0,_⟩ | ⟨gq,c,rfl,hg1,hg2⟩
 · omega
 have hM:=meths h.c1
 have hlm:=hM.len
 have hswap:=hM.swap
 have HL:=Lib.hid (hpLen_any (some ⟨gq,0,none⟩) (m+1) c w)
 have HS:=Lib.hid (hpSwap_any h.row 0 m (Nat.zero_le _) (Nat.lt_succ_self m))
 have hlen:IntKind.i64.wrap (((m+1:Nat):Int) - 1)=(m:Int):=by rw [IntWalk.i64_in _ (by omega)];omega
 have HK:=Lib.hid h
 have HD:=Lib.hid (DnIn.start hh)
 have HF:Hid (∀i,i < m+1→Fine (swQ Q 0 m i)):=Lib.hid (takeQ_all (takeQ_sw Q (Nat.succ_pos m) (Nat.lt_succ_self m)) hok)
 have HT:Hid ((takeQ Q (m+1)).Perm (Q 0::takeQ (swQ Q 0 m) m)):=Lib.hid (by
  refine (takeQ_sw Q (Nat.succ_pos m) (Nat.lt_succ_self m)).symm.trans ?_
  show (takeQ (swQ Q 0 m) m++[swQ Q 0 m m]).Perm _
  rw [swQ_r]
  exact List.perm_append_comm)
 clear h hM hh hok
 rw [show ((0:Nat):Int)=0 from rfl] at HS
 go_enter Tryz.func152,Tryz.ntmps152
 go_wp2_with (first
  | (go_at_call 213;(with_reducible refine HL.out.mono ?_);rintro e w2 ⟨rfl,rfl⟩)
  | (go_at_call 215;(with_reducible refine HS.out.mono ?_);rintro e w1 ⟨rfl,hr1,ho1⟩;have hK1:=Lib.hid (HK.out.swapped hr1 ho1);have HO1:=Lib.hid (ho1.wider (F':=FT g (.slice (some ⟨gq,0,none⟩) (m+1) c)) (fun k e=>Or.inr (by rw [e];rfl)));have HDn:=Lib.hid (hpDown_any hK1.out (by omega) HF.out HD.out))
  | (go_at_call 182;(with_reducible refine HDn.out.mono ?_);rintro e w3 ⟨⟨r,rfl⟩,Q3,h3,h4,h5,h6,h7⟩;have HPp:=Lib.hid (hpLast_any h3 (by omega));have H4:=Lib.hid h4;have H5:=Lib.hid h5;have H6:Hid (Q3 m=Q 0):=Lib.hid (h6.trans (swQ_r Q 0 m));have H7:=Lib.hid h7;clear h3 h4 h5 h6 h7)
  | (go_at_call 216;(with_reducible refine HPp.out.mono ?_);rintro e w4 ⟨rfl,v4,h8,h9,h10⟩))
 go_returns
 refine ⟨by rw [←H6.out];rfl,v4,Q3,h8,H4.out,HT.out.trans ((H5.out.symm).cons _),(HO1.out.trans H7.out fun k h=>.inl h).trans h9 fun k h=>.inl h,h10⟩
end
end Go.Proofs.YtcidobpbepeakaaGreat
