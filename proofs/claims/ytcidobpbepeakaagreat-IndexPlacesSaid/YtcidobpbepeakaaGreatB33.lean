/- Texts of ours, joined: LcDev. -/
import Derived.Test.YtcidobpbepeakaaGreatB01
import Derived.Test.YtcidobpbepeakaaGreatB10
import Derived.Test.YtcidobpbepeakaaGreatB29
import Derived.Test.YtcidobpbepeakaaGreatB06
set_option maxRecDepth 1000000
set_option maxHeartbeats 6400000
namespace Go.Proofs.YtcidobpbepeakaaGreat
def AlikeC (V:Nat→Int) (n:Nat) (U:Nat→Int) (m k:Nat):Prop:=k≤n∧k≤m∧(∀i,i < k→V i=U i)∧¬(k < n∧k < m∧V k=U k)
theorem alikeC_ex (V:Nat→Int) (n:Nat) (U:Nat→Int) (m:Nat):∃k,AlikeC V n U m k:=by
 have step:∀d,(∃k,AlikeC V n U m k)∨(d≤n∧d≤m∧∀i,i < d→V i=U i):=by
  intro d
  induction d with
  | zero=>exact .inr ⟨Nat.zero_le _,Nat.zero_le _,fun i hi=>absurd hi (Nat.not_lt_zero i)⟩
  | succ d ih=>
    rcases ih with h | ⟨h1,h2,h3⟩
    · exact .inl h
    · by_cases e:d < n∧d < m∧V d=U d
      · refine .inr ⟨e.1,e.2.1,fun i hi=>?_⟩
        by_cases g:i=d
        · rw [g];exact e.2.2
        · exact h3 i (by omega)
      · exact .inl ⟨d,h1,h2,h3,e⟩
 rcases step (n+1) with h | h
 · exact h
 · have:=h.1
   omega
theorem alikeC_com {V:Nat→Int} {n a b h k:Nat} (hs:h≤com V n a b) (hk:AlikeC (fun i=>V (a+h+i)) (n - (a+h)) (fun i=>V (b+h+i)) (n - (b+h)) k):com V n a b=h+k:=by
 have h0:=com_le.1 hs
 refine com_is (fun i hi=>?_) (fun g=>?_)
 · by_cases e:i < h
   · exact h0 i e
   · have h1:V (a+h+(i - h))=V (b+h+(i - h)):=hk.2.2.1 (i - h) (by omega)
     have h2:=hk.1
     have h3:=hk.2.1
     rw [show a+h+(i - h)=a+i by omega,show b+h+(i - h)=b+i by omega] at h1
     exact ⟨by omega,by omega,h1⟩
 · refine hk.2.2.2 ⟨by omega,by omega,?_⟩
   show V (a+h+k)=V (b+h+k)
   rw [show a+h+k=a+(h+k) by omega,show b+h+k=b+(h+k) by omega]
   exact g.2.2
def rkE (R:Nat→Int) (n p:Nat):Int:=if p < n then R p else -1
theorem sorted_sa {V R:Nat→Int} {n:Nat} {s:Nat→Nat} (hs:∀i,i < n→s i < n) (hR:∀i,i < n→R (s i)=(i:Int)) (hon:∀p,p < n→∃i,i < n∧s i=p)
    (h:∀i,i+1 < n→V (s i) < V (s (i+1))∨(V (s i)=V (s (i+1))∧rkE R n (s i+1) < rkE R n (s (i+1)+1))):IsSA V n s:=by
 have chain:∀d i,i+(d+1) < n→V (s i) < V (s (i+(d+1)))∨(V (s i)=V (s (i+(d+1)))∧rkE R n (s i+1) < rkE R n (s (i+(d+1))+1)):=by
  intro d
  induction d with
  | zero=>intro i hi;exact h i hi
  | succ d ih=>
    intro i hi
    have h1:=ih i (by omega)
    have h2:=h (i+(d+1)) (by omega)
    rw [show i+(d+1)+1=i+(d+1+1) by omega] at h2
    rcases h1 with h1 | ⟨h1,h1'⟩ <;> rcases h2 with h2 | ⟨h2,h2'⟩
    · exact .inl (by omega)
    · exact .inl (by omega)
    · exact .inl (by omega)
    · exact .inr ⟨by omega,by omega⟩
 have main:∀m a b,n - a≤m→a≤n→b≤n→rkE R n a < rkE R n b→SLess V n a b:=by
  intro m
  induction m with
  | zero=>
    intro a b hm ha hb hlt
    have e:a=n:=by omega
    unfold rkE at hlt
    rw [if_neg (by omega)] at hlt
    exact (sless_end ha (by omega)).2 ⟨e,by
     apply Nat.lt_of_not_le
     intro g
     rw [if_neg (by omega)] at hlt
     omega⟩
  | succ m ih=>
    intro a b hm ha hb hlt
    by_cases e:a=n
    · unfold rkE at hlt
      rw [if_neg (by omega)] at hlt
      exact (sless_end ha (by omega)).2 ⟨e,by
       apply Nat.lt_of_not_le
       intro g
       rw [if_neg (by omega)] at hlt
       omega⟩
    · have han:a < n:=by omega
      obtain ⟨i,hi,rfl⟩:=hon a han
      have hbn:b < n:=by
       apply Nat.lt_of_not_le
       intro g
       unfold rkE at hlt
       rw [if_pos han,if_neg (by omega),hR i hi] at hlt
       omega
      obtain ⟨j,hj,rfl⟩:=hon b hbn
      unfold rkE at hlt
      rw [if_pos han,if_pos hbn,hR i hi,hR j hj] at hlt
      obtain ⟨d,rfl⟩:=Nat.le.dest (show i+1≤j by omega)
      have h1:=chain d i (by omega)
      rw [show i+(d+1)=i+1+d by omega] at h1
      rcases h1 with h1 | ⟨h1,h2⟩
      · exact (sless_now han hbn (by omega)).2 h1
      · exact (sless_step han hbn h1).2 (ih _ _ (by omega) (by omega) (by omega) h2)
 refine ⟨hs,fun i j hij hj=>main n (s i) (s j) (by omega) (by have:=hs i (by omega);omega) (by have:=hs j hj;omega) ?_⟩
 unfold rkE
 rw [if_pos (hs i (by omega)),if_pos (hs j hj),hR i (by omega),hR j hj]
 omega
theorem kasai {V R:Nat→Int} {n i h:Nat} {s:Nat→Nat} (hsa:IsSA V n s) (hR:∀i,i < n→R (s i)=(i:Int)) (hi:i+1 < n) (hc:h+2≤com V n (s i) (s (i+1))):
    s (i+1)+1 < n∧∃j:Nat,R (s (i+1)+1)=((j+1:Nat):Int)∧j+1 < n∧s (j+1)=s (i+1)+1∧h+1≤com V n (s j) (s (i+1)+1):=by
 have hsh:=com_le.1 hc
 have h1:=hsh 1 (by omega)
 have h0:=hsh 0 (by omega)
 have hlt:SLess V n (s i+1) (s (i+1)+1):=(sless_step (hsa.1 i (by omega)) (hsa.1 _ hi) h0.2.2).1 (hsa.2 i (i+1) (by omega) hi)
 obtain ⟨x,hx,ex⟩:=hsa.onto h1.1
 obtain ⟨y,hy,ey⟩:=hsa.onto h1.2.1
 rw [←ex,←ey] at hlt
 have hxy:x < y:=by
  apply Nat.lt_of_not_le
  intro g
  rcases Nat.lt_or_eq_of_le g with g | g
  · exact sless_asymm hlt (hsa.2 y x g hx)
  · rw [g] at hlt
    exact sless_irrefl hlt
 obtain ⟨j,rfl⟩:∃j,y=j+1:=⟨y - 1,by omega⟩
 have hs2:Shares V n (s x) (s (j+1)) (h+1):=by
  rw [ex,ey]
  intro k hk
  have:=hsh (k+1) (by omega)
  rw [show s i+(k+1)=s i+1+k by omega,show s (i+1)+(k+1)=s (i+1)+1+k by omega] at this
  exact this
 refine ⟨h1.2.1,j,by rw [←ey];exact hR _ hy,hy,ey,?_⟩
 rw [←ey,com_le]
 by_cases e:x=j
 · rw [←e];rw [←e] at hs2;exact hs2
 · exact (shares_between (hsa.2 x j (by omega) (by omega)) (hsa.2 j (j+1) (by omega) hy) hs2).2
def LowS (L:Nat→Int) (n s i:Nat) (u:Int):Prop:=∀v,v≤u↔∀j,i≤j→j < i+s→j < n→v≤L j
theorem lowS_one {L:Nat→Int} {n i:Nat} (hi:i < n):LowS L n 1 i (L i):=fun v=>⟨fun h j h1 h2 _=>by
 obtain rfl:j=i:=by omega
 exact h,fun h=>h i (Nat.le_refl _) (by omega) hi⟩
theorem lowS_two {L:Nat→Int} {n s i:Nat} {u u':Int} (h:LowS L n s i u) (h':LowS L n s (i+s) u'):LowS L n (s*2) i (min u u'):=fun v=>by
 rw [Int.le_min,h v,h' v]
 constructor
 · rintro ⟨h1,h2⟩ j g1 g2 g3
   by_cases e:j < i+s
   · exact h1 j g1 e g3
   · exact h2 j (by omega) (by omega) g3
 · intro h
   exact ⟨fun j g1 g2 g3=>h j g1 (by omega) g3,fun j g1 g2 g3=>h j (by omega) (by omega) g3⟩
theorem lowS_end {L:Nat→Int} {n s i:Nat} {u:Int} (h:LowS L n s i u) (hn:n≤i+s):LowS L n (s*2) i u:=fun v=>by
 rw [h v]
 exact ⟨fun h j g1 g2 g3=>h j g1 (by omega) g3,fun h j g1 g2 g3=>h j g1 (by omega) g3⟩
theorem lowS_range {L:Nat→Int} {n s a d:Nat} {u u':Int} (h:LowS L n s (a+1) u) (h':LowS L n s (a+1+d+1 - s) u') (hn:a+1+d < n) (h1:s≤d+1) (h2:d+1 < 2*s):min u u'=lowR L a d:=low_one fun v=>by
 rw [Int.le_min,h v,h' v,lowR_le]
 constructor
 · rintro ⟨g1,g2⟩ i hi
   by_cases e:i < s
   · exact g1 (a+1+i) (by omega) (by omega) (by omega)
   · exact g2 (a+1+i) (by omega) (by omega) (by omega)
 · intro g
   refine ⟨fun j q1 q2 q3=>?_,fun j q1 q2 q3=>?_⟩
   · have:=g (j - (a+1)) (by omega)
     rwa [show a+1+(j - (a+1))=j by omega] at this
   · have:=g (j - (a+1)) (by omega)
     rwa [show a+1+(j - (a+1))=j by omega] at this
def halfU (U:Nat→Int) (s i j:Nat):Int:=if j < i then min (U j) (U (j+s)) else U j
theorem half_zero (U:Nat→Int) (s:Nat):halfU U s 0=U:=by
 funext j
 exact if_neg (Nat.not_lt_zero j)
theorem half_new {U:Nat→Int} {s i j:Nat} (h:i≤j):halfU U s i j=U j:=if_neg (by omega)
theorem half_step (U:Nat→Int) (s i:Nat):(fun j=>if j=i then min (U i) (U (i+s)) else halfU U s i j)=halfU U s (i+1):=by
 funext j
 unfold halfU
 by_cases e:j=i
 · subst e
   rw [if_pos rfl,if_pos (by omega)]
 · rw [if_neg e]
   by_cases g:j < i
   · rw [if_pos g,if_pos (by omega)]
   · rw [if_neg g,if_neg (by omega)]
theorem half_end {L U:Nat→Int} {n s:Nat} (h:∀i,i < n→LowS L n s i (U i)):∀i,i < n→LowS L n (s*2) i (halfU U s (n - s) i):=fun i hi=>by
 unfold halfU
 by_cases e:i < n - s
 · rw [if_pos e]
   exact lowS_two (h i hi) (h (i+s) (by omega))
 · rw [if_neg e]
   exact lowS_end (h i hi) (by omega)
theorem blen_pow:∀k,Pl.blen (2^k)=k+1:=by
 intro k
 induction k with
 | zero=>rw [show 2^0=1 from rfl,Pl.blen_pos (by omega),show 1 / 2=0 from rfl,Pl.blen_zero]
 | succ k ih=>
   have:0 < 2^k:=Nat.pow_pos (by omega)
   rw [Pl.blen_pos (by rw [Nat.pow_succ];omega),Nat.pow_succ,Nat.mul_div_cancel _ (by omega),ih]
theorem blen_is:∀(k x:Nat),Pl.blen x=k+1↔2^k≤x∧x < 2*2^k:=by
 intro k
 induction k with
 | zero=>
   intro x
   by_cases h0:x=0
   · subst h0;rw [Pl.blen_zero];omega
   · rw [Pl.blen_pos (by omega)]
     by_cases h1:x=1
     · subst h1;rw [show 1 / 2=0 from rfl,Pl.blen_zero];omega
     · have:=Pl.blen_pos (n:=x / 2) (by omega)
       rw [show 2^0=1 from rfl]
       omega
 | succ k ih=>
   intro x
   by_cases h0:x=0
   · subst h0
     have:0 < 2^(k+1):=Nat.pow_pos (by omega)
     rw [Pl.blen_zero];omega
   · rw [Pl.blen_pos (by omega)]
     have:=ih (x / 2)
     rw [Nat.pow_succ]
     constructor
     · intro h
       have:=this.1 (by omega)
       omega
     · intro h
       have:=this.2 (by omega)
       omega
def lowAt (L:Nat→Int) (a b:Nat):Int:=lowR L (min a b) (max a b - min a b - 1)
theorem lowAt_com {V:Nat→Int} {n a b:Nat} {s:Nat→Nat} (h:IsSA V n s) (ha:a < n) (hb:b < n) (hne:a≠b):lowAt (lcpI V n fun i=>((s i:Nat):Int)) a b=((com V n (s a) (s b):Nat):Int):=by
 unfold lowAt
 rcases Nat.lt_or_gt_of_ne hne with hlt | hlt
 · obtain ⟨d,rfl⟩:=Nat.le.dest (show a+1≤b from hlt)
   rw [Nat.min_eq_left (by omega),Nat.max_eq_right (by omega),show a+1+d - a - 1=d by omega,low_com h d hb]
 · obtain ⟨d,rfl⟩:=Nat.le.dest (show b+1≤a from hlt)
   rw [Nat.min_eq_right (by omega),Nat.max_eq_left (by omega),show b+1+d - b - 1=d by omega,low_com h d ha,com_symm]
def gap (P:Nat→Nat) (i:Nat):Nat:=max (P (i - 1)) (P i) - min (P (i - 1)) (P i)
end Go.Proofs.YtcidobpbepeakaaGreat
namespace Go.Proofs.YtcidobpbepeakaaGreat
open Go.RowKit
theorem lalike_any (A A':Option Addr) (n m c c':Nat) (V V':Nat→Int) (k:Nat) (B:Nat) (w:World) (hn:n≤4194304) (ho:Its w B A n V) (ho':Its w B A' m V') (hk:AlikeC V n V' m k):
    Calls Tryz.prog 138 #[.slice A n c,.slice A' m c'] w fun e w'=>e=.returned (.int .i64 (k:Int))∧∃j,w'=w.drewN j:=by
 have HO:=Lib.hid ho
 have HO':=Lib.hid ho'
 have HK:=Lib.hid hk
 obtain ⟨x,hx,hxn,hxm,hxe⟩:∃x:Nat,min (n:Int) (m:Int)=(x:Int)∧x≤n∧x≤m∧(x=n∨x=m):=by
  by_cases h:n≤m
  · exact ⟨n,by omega,Nat.le_refl _,by omega,.inl rfl⟩
  · exact ⟨m,by omega,by omega,Nat.le_refl _,.inr rfl⟩
 have HX:=Lib.hid hxe
 clear ho ho' hk hxe
 go_enter Tryz.func138,Tryz.ntmps138
 go_wp2_with fail
 go_loopw [13] (fun v wr=>∃i q:Nat,i≤x∧v=.int .i64 (i:Int)∧wr=w.drewN q∧Hid (i≤k)) (fun v _=>x - (intOf v).toNat)
 case atStart=>exact ⟨0,0,Nat.zero_le _,rfl,rfl,Lib.hid (Nat.zero_le _)⟩
 case round=>
  obtain ⟨i,q,hi,rfl,rfl,hik⟩:=hrel
  by_cases hlt:i < x
  · have hlti:(i:Int) < (x:Int):=by omega
    have hin:i < n:=by omega
    have him:i < m:=by omega
    obtain ⟨ad,rfl,_,hc0,_⟩:=HO.out i (by omega)
    obtain ⟨ad',rfl,_,hc0',_⟩:=HO'.out i (by omega)
    have hc:∀t,(w.drewN t).cell? (ad.add i)=some (.int .i64 (V i)):=fun _=>hc0
    have hc':∀t,(w.drewN t).cell? (ad'.add i)=some (.int .i64 (V' i)):=fun _=>hc0'
    clear hc0 hc0'
    by_cases he:V i=V' i
    · have HE:Hid (i+1≤k):=Lib.hid (by
       apply Nat.lt_of_le_of_ne hik.out
       rintro rfl
       exact HK.out.2.2.2 ⟨hin,him,he⟩)
      rw [he] at hc
      clear he hik hx
      go_wp2_with fail
      go_quiet (fail)
      go_wp2_with fail
      go_roundw
      case rel=>exact ⟨i+1,_,by omega,by go_num,rfl,HE⟩
      case measure=>simp [intOf];omega
    · have HE:Hid (i=k):=Lib.hid (by
       apply Nat.le_antisymm hik.out
       apply Nat.le_of_not_lt
       intro g
       exact he (HK.out.2.2.1 i g))
      have hne:(V i != V' i)=true:=by rw [bne_iff_ne];exact he
      have hne2:¬V i=V' i:=he
      clear hik hx
      generalize V i=v1 at*
      generalize V' i=v2 at*
      go_wp2_with fail
      go_quiet (fail)
      go_wp2_with fail
      go_ret
      exact ⟨by rw [HE.out];rfl,_,World.drewN_drewN _ _ _⟩
  · have HE:Hid (x=k):=Lib.hid (by
     have h1:=hik.out
     have h2:=HK.out.1
     have h3:=HK.out.2.1
     rcases HX.out with h | h <;> omega)
    have hix:i=x:=by omega
    have hge:¬(i:Int) < (x:Int):=by omega
    clear hik hx hix
    go_wp2_with fail
    go_ret
    exact ⟨by rw [HE.out];rfl,q,rfl⟩
end Go.Proofs.YtcidobpbepeakaaGreat
namespace Go.Proofs.YtcidobpbepeakaaGreat
open Go.RowKit
theorem restsRise_any (A:Option Addr) (n c:Nat) (R:Nat→Int) (a b:Nat) (B:Nat) (w:World) (hn:n≤4194304) (ho:Its w B A n R) (hR:∀p,p < n→0≤R p) (ha:a < n) (hb:b < n) (hab:a≠b) (r:Bool) (hr:r=true↔rkE R n (a+1) < rkE R n (b+1)):
    Calls Tryz.prog 137 #[.slice A n c,.int .i64 (a:Int),.int .i64 (b:Int)] w fun e w'=>e=.returned (.bool r)∧∃j,w'=w.drewN j:=by
 have hw1:IntKind.i64.wrap ((a:Int)+1)=((a+1:Nat):Int):=by rw [IntWalk.i64_in _ (by omega)];omega
 have hw2:IntKind.i64.wrap ((b:Int)+1)=((b+1:Nat):Int):=by rw [IntWalk.i64_in _ (by omega)];omega
 obtain ⟨x,hx⟩:∃x,a+1=x:=⟨_,rfl⟩
 obtain ⟨y,hy⟩:∃y,b+1=y:=⟨_,rfl⟩
 rw [hx] at hw1 hr
 rw [hy] at hw2 hr
 by_cases h1:x=n
 · have e1:((x:Int)==(n:Int))=true:=by rw [beq_iff_eq];omega
   obtain rfl:r=true:=hr.2 (by
    unfold rkE
    rw [if_neg (by omega),if_pos (by omega)]
    have:=hR y (by omega)
    omega)
   clear hr ho hR h1 hx hy
   go_enter Tryz.func137,Tryz.ntmps137
   go_wp2_with fail
   go_ret
   exact ⟨rfl,0,rfl⟩
 · have e1:((x:Int)==(n:Int))=false:=by rw [beq_eq_false_iff_ne];omega
   by_cases h2:y=n
   · have e2:((y:Int)==(n:Int))=true:=by rw [beq_iff_eq];omega
     obtain rfl:r=false:=by
      rcases r with _ | _
      · rfl
      · have:=hr.1 rfl
        have:=hR x (by omega)
        unfold rkE at*
        rw [if_pos (by omega),if_neg (by omega)] at*
        omega
     clear hr ho hR h2 hx hy
     go_enter Tryz.func137,Tryz.ntmps137
     go_wp2_with fail
     go_ret
     exact ⟨rfl,0,rfl⟩
   · have e2:((y:Int)==(n:Int))=false:=by rw [beq_eq_false_iff_ne];omega
     obtain ⟨ad,rfl,_,hcx,_⟩:=ho x (by omega)
     obtain ⟨_,e,_,hcy,_⟩:=ho y (by omega)
     cases e
     have cx:∀t,(w.drewN t).cell? (ad.add x)=some (.int .i64 (R x)):=fun _=>hcx
     have cy:∀t,(w.drewN t).cell? (ad.add y)=some (.int .i64 (R y)):=fun _=>hcy
     have HD:Hid (decide (R x < R y)=r):=Lib.hid (by
      unfold rkE at hr
      rw [if_pos (by omega),if_pos (by omega)] at hr
      rcases r with _ | _
      · exact decide_eq_false fun h=>by have:=hr.2 h;cases this
      · exact decide_eq_true (hr.1 rfl))
     have l1:x < n:=by omega
     have l2:y < n:=by omega
     have l3:(x:Int) < (n:Int):=by omega
     have l4:(y:Int) < (n:Int):=by omega
     generalize R x=v1 at*
     generalize R y=v2 at*
     clear hr ho hR hx hy hcx hcy
     go_enter Tryz.func137,Tryz.ntmps137
     go_wp2_with fail
     go_quiet (fail)
     go_wp2_with fail
     go_ret
     exact ⟨by rw [HD.out];rfl,_,rfl⟩
def OrdAt (V R:Nat→Int) (n:Nat) (s:Nat→Nat) (i:Nat):Prop:=V (s i) < V (s (i+1))∨(V (s i)=V (s (i+1))∧rkE R n (s i+1) < rkE R n (s (i+1)+1))
theorem inOrder_any (A A' A'':Option Addr) (n c c' c'':Nat) (V R:Nat→Int) (s:Nat→Nat) (B:Nat) (w:World) (hn:n≤4194304) (ho:Its w B A n V) (ho':Its w B A' n (xi s)) (ho'':Its w B A'' n R)
    (hs:∀i,i < n→s i < n) (hinj:∀i,i+1 < n→s i≠s (i+1)) (hR:∀p,p < n→0≤R p) (r:Bool) (hr:r=true↔∀i,i+1 < n→OrdAt V R n s i):
    Calls Tryz.prog 93 #[.slice A n c,.slice A' n c',.slice A'' n c''] w fun e w'=>e=.returned (.bool r)∧∃j,w'=w.drewN j:=by
 have HO:=Lib.hid ho
 have HO':=Lib.hid ho'
 have HO'':=Lib.hid ho''
 have HS:=Lib.hid hs
 have HJ:=Lib.hid hinj
 have HR:=Lib.hid hR
 have HRr:=Lib.hid hr
 clear ho ho' ho'' hs hinj hR hr
 go_enter Tryz.func93,Tryz.ntmps93
 go_wp2_with fail
 go_loopw [7] (fun v wr=>∃i q:Nat,i≤n∧v=.int .i64 ((i+1:Nat):Int)∧wr=w.drewN q∧Hid (∀j,j < i→OrdAt V R n s j)) (fun v _=>n+1 - (intOf v).toNat)
 case atStart=>exact ⟨0,0,Nat.zero_le _,rfl,rfl,Lib.hid fun j hj=>absurd hj (Nat.not_lt_zero j)⟩
 case round=>
  obtain ⟨i,q,hi,rfl,rfl,hall⟩:=hrel
  by_cases hlt:i+1 < n
  · obtain ⟨ad,rfl,_,hc1,_⟩:=HO'.out i (by omega)
    obtain ⟨_,e,_,hc2,_⟩:=HO'.out (i+1) hlt
    cases e
    have hj:=HJ.out i hlt
    have hal:=HS.out i (by omega)
    have hbl:=HS.out (i+1) hlt
    have ca:∀t,(w.drewN t).cell? (ad.add i)=some (.int .i64 ((s i:Nat):Int)):=fun _=>hc1
    have cb:∀t,(w.drewN t).cell? (ad.add (i+1))=some (.int .i64 ((s (i+1):Nat):Int)):=fun _=>hc2
    have hORD:Hid (OrdAt V R n s i↔(V (s i) < V (s (i+1))∨(V (s i)=V (s (i+1))∧rkE R n (s i+1) < rkE R n (s (i+1)+1)))):=Lib.hid Iff.rfl
    clear hc1 hc2
    generalize s i=a at*
    generalize s (i+1)=b at*
    obtain ⟨ad',rfl,_,hc3,_⟩:=HO.out a hal
    obtain ⟨_,e,_,hc4,_⟩:=HO.out b hbl
    cases e
    have cva:∀t,(w.drewN t).cell? (ad'.add a)=some (.int .i64 (V a)):=fun _=>hc3
    have cvb:∀t,(w.drewN t).cell? (ad'.add b)=some (.int .i64 (V b)):=fun _=>hc4
    obtain ⟨r2,hr2⟩:∃r2:Bool,r2=true↔rkE R n (a+1) < rkE R n (b+1):=⟨decide (rkE R n (a+1) < rkE R n (b+1)),decide_eq_true_iff⟩
    have HRest:∀p q t,Hid (Calls Tryz.prog 137 #[.slice A'' n c'',.int .i64 (a:Int),.int .i64 (b:Int)] (w.drewN (p+q+t)) fun e w'=>e=.returned (.bool r2)∧∃j,w'=w.drewN (p+q+j)):=
     fun p q t=>Lib.hid ((restsRise_any A'' n c'' R a b B (w.drewN (p+q+t)) hn (fun k hk=>HO''.out k hk) HR.out hal hbl hj r2 hr2).mono fun _ _ hh=>by
      obtain ⟨h1,j,h2⟩:=hh
      exact ⟨h1,t+j,by rw [h2,World.drewN_drewN,Nat.add_assoc (p+q) t j]⟩)
    have l1:(a:Int) < (n:Int):=by omega
    have l2:(b:Int) < (n:Int):=by omega
    have l3:((i+1:Nat):Int) < (n:Int):=by omega
    have l4:i < n:=by omega
    have hw1:IntKind.i64.wrap (((i+1:Nat):Int) - 1)=(i:Int):=by rw [IntWalk.i64_in _ (by omega)];omega
    have HIx:Hid (i+1+1≤n):=Lib.hid hlt
    obtain ⟨m,hm⟩:∃m,i+1=m:=⟨_,rfl⟩
    have HM:=Lib.hid hm
    rw [hm] at cb hlt l3 hw1 ⊢
    clear hm hc3 hc4
    obtain ⟨va,hva⟩:∃v,V a=v:=⟨_,rfl⟩
    obtain ⟨vb,hvb⟩:∃v,V b=v:=⟨_,rfl⟩
    rw [hva] at cva
    rw [hvb] at cvb
    have HVs:=Lib.hid (And.intro hva hvb)
    clear hva hvb
    have fin:∀(b2:Bool),(b2=true↔(va < vb∨(va=vb∧rkE R n (a+1) < rkE R n (b+1))))→(b2=true→Hid (∀j,j < m→OrdAt V R n s j))∧(b2=false→r=false):=fun b2 h2=>by
     have h3:=hORD.out
     rw [HVs.out.1,HVs.out.2,←h2] at h3
     have hm:=HM.out
     refine ⟨fun e=>Lib.hid fun j hjm=>?_,fun e=>?_⟩
     · by_cases g:j=i
       · rw [g];exact h3.2 e
       · exact hall.out j (by omega)
     · rcases r with _ | _
       · rfl
       · have:=h3.1 (HRr.out.1 rfl i (by omega))
         rw [e] at this
         cases this
    have HFin:=Lib.hid fin
    clear fin hORD hall
    rcases Int.lt_trichotomy va vb with h | h | h
    · have d1:decide (vb < va)=false:=decide_eq_false (by omega)
      have d2:(va==vb)=false:=by rw [beq_eq_false_iff_ne];omega
      have HN:=(HFin.out true ⟨fun _=>.inl h,fun _=>rfl⟩).1 rfl
      clear HFin hr2
      have d3:¬va=vb:=by omega
      clear h
      go_wp2_with fail
      go_quiet (fail)
      go_wp2_with fail
      go_quiet (fail)
      go_wp2_with fail
      go_roundw
      case rel=>exact ⟨m,_,by omega,by go_num,rfl,HN⟩
      case measure=>simp [intOf];omega
    · subst h
      have d1:decide (va < va)=false:=decide_eq_false (by omega)
      have d2:(va==va)=true:=by rw [beq_iff_eq]
      rcases r2 with _ | _
      · have hrf:r=false:=(HFin.out false ⟨fun e=>(by cases e),fun e=>by
         rcases e with e | e
         · omega
         · exact hr2.2 e.2⟩).2 rfl
        subst hrf
        clear HFin hr2
        go_wp2_with fail
        go_quiet (fail)
        go_wp2_with fail
        go_quiet ((go_at_call 137;with_reducible exact (HRest _ _ _).out))
        go_wp2_with fail
        go_ret
        exact ⟨rfl,_,by rw [World.drewN_drewN,World.drewN_drewN]⟩
      · have HN:=(HFin.out true ⟨fun e=>.inr ⟨rfl,hr2.1 rfl⟩,fun _=>rfl⟩).1 rfl
        clear HFin hr2
        go_wp2_with fail
        go_quiet (fail)
        go_wp2_with fail
        go_quiet ((go_at_call 137;with_reducible exact (HRest _ _ _).out))
        go_wp2_with fail
        go_roundw
        case rel=>exact ⟨m,_,by omega,by go_num,rfl,HN⟩
        case measure=>simp [intOf];omega
    · have d1:decide (vb < va)=true:=decide_eq_true h
      have hrf:r=false:=(HFin.out false ⟨fun e=>(by cases e),fun e=>by omega⟩).2 rfl
      subst hrf
      clear HFin hr2
      go_wp2_with fail
      go_quiet (fail)
      go_wp2_with fail
      go_quiet (fail)
      go_wp2_with fail
      go_ret
      exact ⟨rfl,_,by rw [World.drewN_drewN,World.drewN_drewN]⟩
  · have hge:¬((i+1:Nat):Int) < (n:Int):=by omega
    obtain rfl:r=true:=HRr.out.2 fun j hj=>hall.out j (by omega)
    clear hall
    obtain ⟨m,hm⟩:∃m,i+1=m:=⟨_,rfl⟩
    rw [hm] at hge ⊢
    clear hm hlt
    go_wp2_with fail
    go_ret
    exact ⟨rfl,q,rfl⟩
end Go.Proofs.YtcidobpbepeakaaGreat
namespace Go.Proofs.YtcidobpbepeakaaGreat
open Go.RowKit
theorem Its.tailX {w:World} {B:Nat} {A X:Option Addr} {n c k:Nat} {V:Nat→Int} (h:Its w B A n V) (hnc:n≤c) (hX:(if c=k then A else Option.map (fun x=>x.add k) A)=X):Its w B X (n - k) (fun j=>V (k+j)):=fun j hj=>by
 obtain ⟨ad,e,g1,g2,g3⟩:=h (k+j) (by omega)
 subst e
 rw [if_neg (by omega)] at hX
 subst hX
 refine ⟨ad.add k,rfl,by rw [add_block];exact g1,?_,g3⟩
 rw [Addr.add_add]
 exact g2
theorem shares_room {V:Nat→Int} {n a b k:Nat} (h:Shares V n a b k) (ha:a≤n) (hb:b≤n):a+k≤n∧b+k≤n:=by
 by_cases h0:k=0
 · omega
 · exact h.in (by omega)
def NInv (V:Nat→Int) (n:Nat) (s:Nat→Nat) (p hv:Nat):Prop:=∀j,j+1 < n→s (j+1)=p→hv≤com V n (s j) p
theorem ninv_zero {V:Nat→Int} {n p:Nat} {s:Nat→Nat}:NInv V n s p 0:=fun _ _ _=>Nat.zero_le _
theorem ninv_next {V:Nat→Int} {n j:Nat} {s:Nat→Nat} (hsa:IsSA V n s) (hj:j+1 < n):NInv V n s (s (j+1)+1) (com V n (s j) (s (j+1)) - 1):=fun j' hj' he=>by
 by_cases h:com V n (s j) (s (j+1))≤1
 · rw [show com V n (s j) (s (j+1)) - 1=0 by omega]
   exact Nat.zero_le _
 · obtain ⟨R,hR⟩:∃R:Nat→Int,∀i,i < n→R (s i)=(i:Int):=by
    refine ⟨fun p=>open Classical in if h:∃i,i < n∧s i=p then ((h.choose:Nat):Int) else 0,fun i hi=>?_⟩
    have hex:∃k,k < n∧s k=s i:=⟨i,hi,rfl⟩
    have h2:=hex.choose_spec
    have h3:hex.choose=i:=hsa.inj h2.1 hi h2.2
    simp only [hex,dif_pos,h3]
   obtain ⟨_,j2,_,h3,h4,h5⟩:=kasai (h:=com V n (s j) (s (j+1)) - 2) hsa hR hj (by omega)
   have e:=hsa.inj hj' h3 (he.trans h4.symm)
   obtain rfl:j'=j2:=by omega
   omega
def NRow (V:Nat→Int) (n:Nat) (s:Nat→Nat) (p:Nat) (U:Nat→Int):Prop:=∀j,j < n→U j=if s j < p then lcpI V n (xi s) j else 0
theorem nrow_first {V:Nat→Int} {n:Nat} {s:Nat→Nat} {U:Nat→Int} (hsa:IsSA V n s) (hn:0 < n) (h:NRow V n s (s 0) U):NRow V n s (s 0+1) U:=fun j hj=>by
 rw [h j hj]
 by_cases e:s j=s 0
 · obtain rfl:=hsa.inj hj hn e
   rw [if_neg (by omega),if_pos (by omega),lcpI_zero]
 · by_cases g:s j < s 0
   · rw [if_pos g,if_pos (by omega)]
   · rw [if_neg g,if_neg (by omega)]
theorem nrow_next {V:Nat→Int} {n i:Nat} {s:Nat→Nat} {U:Nat→Int} (hsa:IsSA V n s) (hi:i+1 < n) (h:NRow V n s (s (i+1)) U):NRow V n s (s (i+1)+1) (putI U (i+1) ((com V n (s i) (s (i+1)):Nat):Int)):=fun j hj=>by
 by_cases e:s j=s (i+1)
 · obtain rfl:=hsa.inj hj hi e
   rw [putI_at,if_pos (by omega),lcpI_succ]
   exact (comI_in (hsa.1 i (by omega)) (hsa.1 _ hi)).symm
 · rw [putI_off _ (fun g=>e (by rw [g])),h j hj]
   by_cases g:s j < s (i+1)
   · rw [if_pos g,if_pos (by omega)]
   · rw [if_neg g,if_neg (by omega)]
theorem lneigh_any (A A' A'':Option Addr) (n c c' c'':Nat) (V R:Nat→Int) (s:Nat→Nat) (w:World) (hn:n≤4194304) (hnc:n≤c) (hcm:c≤maxLen) (ho:Its w w.heap.size A n V) (ho':Its w w.heap.size A' n (xi s)) (ho'':Its w w.heap.size A'' n R)
    (hsa:IsSA V n s) (hR:∀i,i < n→R (s i)=(i:Int)):
    Calls Tryz.prog 94 #[.slice A n c,.slice A' n c',.slice A'' n c'',.bool true] w fun e w'=>e=.returned (.slice (some ⟨w.heap.size,0,none⟩) n n)∧Lies w' w.heap.size 3 (icells (lcpI V n (xi s)) n)∧Below w.heap.size w w':=by
 have HO:=Lib.hid ho
 have HO':=Lib.hid ho'
 have HO'':=Lib.hid ho''
 have HS:=Lib.hid hsa
 have HR:=Lib.hid hR
 obtain ⟨a,za⟩:∃a,w.heap.size=a:=⟨_,rfl⟩
 have hMk:=make_ints0 w n hn
 rw [za] at hMk HO HO' HO'' ⊢
 obtain ⟨w1,hw1⟩:∃w1,w.alloc (.cells (icells (fun _=>0) n).toArray 3)=w1:=⟨_,rfl⟩
 have k1:Below a w w1:=by rw [←hw1,←za];exact (Below.refl _ _).alloc (Nat.le_refl _) _
 have l1:Lies w1 a 3 (icells (fun _=>0) n):=by rw [←hw1,←za];exact lies_new w _ _
 rw [hw1] at hMk
 unfold maxLen at hcm
 clear ho ho' ho'' hsa hR hw1 za
 go_enter Tryz.func94,Tryz.ntmps94
 go_wp2_with fail
 go_loopw [10,11,20] (fun u v t wr=>∃p hv:Nat,p≤n∧hv≤n∧t=.int .i64 (p:Int)∧u=.int .i64 (hv:Int)∧(∃x:Int,v=.int .i64 x)∧Hid (NInv V n s p hv)∧Hid (∃U,Lies wr a 3 (icells U n)∧NRow V n s p U)∧Hid (Below a w wr)) (fun _ _ t _=>n - (intOf t).toNat)
 case atStart=>exact ⟨0,0,Nat.zero_le _,Nat.zero_le _,rfl,rfl,⟨0,rfl⟩,Lib.hid ninv_zero,Lib.hid ⟨_,l1,fun j hj=>by rw [if_neg (Nat.not_lt_zero _)]⟩,Lib.hid k1⟩
 case round=>
  clear l1 k1 hMk
  obtain ⟨p,hv,hp,hvn,rfl,rfl,⟨x,rfl⟩,hI,hU,hb⟩:=hrel
  by_cases hlt:p < n
  · have hltp:(p:Int) < (n:Int):=by omega
    obtain ⟨i,hi,hip⟩:=HS.out.onto hlt
    obtain ⟨ad'',rfl,_,hc'',_⟩:=HO''.out.below hb.out p hlt
    have hRp:=HR.out i hi
    rw [hip] at hRp
    rw [hRp] at hc''
    rcases Nat.eq_zero_or_pos i with rfl | hi0
    · have HI2:Hid (NInv V n s (p+1) 0):=Lib.hid ninv_zero
      have HU2:Hid (∃U,Lies wr a 3 (icells U n)∧NRow V n s (p+1) U):=Lib.hid (by
       obtain ⟨U,h1,h2⟩:=hU.out
       rw [←hip] at h2 ⊢
       exact ⟨U,h1,nrow_first HS.out hi h2⟩)
      clear hI hU hRp hip
      go_wp2_with fail
      go_roundw
      case rel=>exact ⟨p+1,0,by omega,by omega,by go_num,rfl,⟨_,rfl⟩,HI2,HU2,hb⟩
      case measure=>simp [intOf];omega
    · obtain ⟨j,rfl⟩:∃j,i=j+1:=⟨i - 1,by omega⟩
      obtain ⟨ad',rfl,_,hc',_⟩:=HO'.out.below hb.out j (by omega)
      have hqn:=HS.out.1 j (by omega)
      have hle:=hI.out j hi hip
      have hrm:=shares_room (com_le.1 hle) (by omega) (by omega)
      obtain ⟨k,hk⟩:=alikeC_ex (fun i=>V (p+hv+i)) (n - (p+hv)) (fun i=>V (s j+hv+i)) (n - (s j+hv))
      have hcm2:=alikeC_com (by rw [com_symm];exact hle) hk
      rw [com_symm] at hcm2
      have hkn:=hk.1
      have HI2:Hid (NInv V n s (p+1) (hv+k - 1)):=Lib.hid (by
       rw [←hcm2,←hip]
       exact ninv_next HS.out hi)
      have HU2:∀z,Hid (∃U,Lies ((wr.drewN z).setCell ⟨a,j+1,none⟩ (.int .i64 ((hv+k:Nat):Int))) a 3 (icells U n)∧NRow V n s (p+1) U):=fun z=>Lib.hid (by
       obtain ⟨U,h1,h2⟩:=hU.out
       rw [←hip] at h2
       have h3:=nrow_next HS.out hi h2
       rw [hip,hcm2] at h3
       refine ⟨_,?_,h3⟩
       have:=(h1.drewN z).put (j+1) (.int .i64 ((hv+k:Nat):Int))
       rw [icells_put] at this
       exact this)
      have HB2:∀z,Hid (Below a w ((wr.drewN z).setCell ⟨a,j+1,none⟩ (.int .i64 ((hv+k:Nat):Int)))):=fun z=>Lib.hid ((below_drewN' hb.out z).setCell (p:=⟨a,j+1,none⟩) (Nat.le_refl _) _)
      obtain ⟨y,hy⟩:∃y,(∃U:Nat→Int,y=U (j+1)∧Lies wr a 3 (icells U n)):=by
       obtain ⟨U,h1,h2⟩:=hU.out
       exact ⟨_,U,rfl,h1⟩
      have hcell:∀z,(wr.drewN z).cell? ⟨a,j+1,none⟩=some (.int .i64 y):=fun z=>by
       obtain ⟨U,rfl,h1⟩:=hy
       exact (h1.cell (j+1)).trans (icells_at _ _ _ hi)
      have hfree:∀z,(wr.drewN z).frozen? ⟨a,j+1,none⟩=false:=fun z=>by
       obtain ⟨U,rfl,h1⟩:=hy
       exact h1.free (j+1)
      obtain ⟨X1,hX1⟩:∃X1,(if c=p+hv then A else Option.map (fun x=>x.add (p+hv)) A)=X1:=⟨_,rfl⟩
      obtain ⟨q,hq⟩:∃q,s j=q:=⟨_,rfl⟩
      rw [show xi s j=(q:Int) from by rw [←hq];rfl] at hc'
      rw [hq] at hk hrm hqn
      obtain ⟨X2,hX2⟩:∃X2,(if c=q+hv then A else Option.map (fun x=>x.add (q+hv)) A)=X2:=⟨_,rfl⟩
      have HL:∀z,Hid (Calls Tryz.prog 138 #[.slice X1 (n - (p+hv)) (c - (p+hv)),.slice X2 (n - (q+hv)) (c - (q+hv))] (wr.drewN z) fun e w'=>e=.returned (.int .i64 (k:Int))∧∃j,w'=wr.drewN j):=
       fun z=>Lib.hid ((lalike_any X1 X2 (n - (p+hv)) (n - (q+hv)) (c - (p+hv)) (c - (q+hv)) _ _ k a (wr.drewN z) (by omega) (Its.tailX (fun k hk=>HO.out.below hb.out k hk) hnc hX1) (Its.tailX (fun k hk=>HO.out.below hb.out k hk) hnc hX2) hk).mono fun _ _ hh=>by
        obtain ⟨h1,j,h2⟩:=hh
        exact ⟨h1,_,h2.trans (World.drewN_drewN _ _ _)⟩)
      obtain ⟨x1,hx1⟩:∃x1,p+hv=x1:=⟨_,rfl⟩
      obtain ⟨x2,hx2⟩:∃x2,q+hv=x2:=⟨_,rfl⟩
      obtain ⟨cm,hcm3⟩:∃cm,hv+k=cm:=⟨_,rfl⟩
      have w1:IntKind.i64.wrap ((p:Int)+(hv:Int))=(x1:Int):=by rw [IntWalk.i64_in _ (by omega)];omega
      have w2:IntKind.i64.wrap ((q:Int)+(hv:Int))=(x2:Int):=by rw [IntWalk.i64_in _ (by omega)];omega
      have w3:IntKind.i64.wrap ((hv:Int)+(k:Int))=(cm:Int):=by rw [IntWalk.i64_in _ (by omega)];omega
      have w4:IntKind.i64.wrap (((j+1:Nat):Int) - 1)=(j:Int):=by rw [IntWalk.i64_in _ (by omega)];omega
      obtain ⟨zi,hzi⟩:∃zi:Int,(cm:Int) - 1=zi:=⟨_,rfl⟩
      have w5:IntKind.i64.wrap ((cm:Int) - 1)=zi:=by rw [IntWalk.i64_in _ (by omega)];omega
      obtain ⟨h2,hh2⟩:∃h2,cm - 1=h2:=⟨_,rfl⟩
      have hmx:max zi 0=(h2:Int):=by omega
      have a1:(x1:Int)≤(n:Int):=by omega
      have a2:(x2:Int)≤(n:Int):=by omega
      have a3:x1≤n:=by omega
      have a4:x2≤n:=by omega
      have a5:h2≤n:=by omega
      have a6:j < n:=by omega
      have a7:(j:Int) < (n:Int):=by omega
      rw [hx1] at HL hX1
      rw [hx2] at HL hX2
      rw [hcm3] at HI2 HU2 HB2
      rw [hh2] at HI2
      obtain ⟨m,hm⟩:∃m,j+1=m:=⟨_,rfl⟩
      rw [hm] at hc'' HU2 HB2 hcell hfree w4 hi
      have a8:(m:Int) < (n:Int):=by omega
      have a9:((m:Int)==0)=false:=by rw [beq_eq_false_iff_ne];omega
      have a10:¬(m:Int)=0:=by omega
      have a11:m≠0:=by omega
      clear hI hU hRp hip hk hcm2 hkn hle hrm hqn hy hq hx1 hx2 hcm3 hzi hh2 hm hi0
      go_wp2_with fail
      go_quiet ((go_at_call 138;with_reducible exact (HL _).out))
      go_wp2_with fail
      go_roundw
      case rel=>exact ⟨p+1,h2,by omega,a5,by go_num,rfl,⟨_,rfl⟩,HI2,HU2 _,HB2 _⟩
      case measure=>simp [intOf];omega
  · have hpn:p=n:=by omega
    have hge:¬(p:Int) < (n:Int):=by omega
    have HF:Hid (Lies wr a 3 (icells (lcpI V n (xi s)) n)∧Below a w wr):=Lib.hid (by
     obtain ⟨U,h1,h2⟩:=hU.out
     refine ⟨?_,hb.out⟩
     rw [←icells_congr (U:=U) (U':=lcpI V n (xi s)) (fun j hj=>by rw [h2 j hj,if_pos (by rw [hpn];exact HS.out.1 j hj)])]
     exact h1)
    clear hI hU hb hpn
    go_wp2_with fail
    go_ret
    exact ⟨rfl,HF.out.1,HF.out.2⟩
end Go.Proofs.YtcidobpbepeakaaGreat
