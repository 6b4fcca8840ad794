/- Texts of ours, joined: SaMath LstMore IdxSa BestRef. -/
import Derived.Test.YtcidobpbepeakaaGreatB01
import Derived.Test.YtcidobpbepeakaaGreatB02
import Derived.Deep.AppendLies
import Derived.Deep.QuietTactic
import Derived.BigQuiet
set_option maxRecDepth 1000000
set_option maxHeartbeats 6400000
namespace Go.Proofs.YtcidobpbepeakaaGreat
theorem pigeon:∀(n k:Nat) (f:Nat→Bool) (s:Nat→Nat),(∀i,i < k→s i < n∧f (s i)=true)→(∀i j,i < k→j < k→s i=s j→i=j)→k≤Pl.cnt f n:=by
 intro n
 induction n with
 | zero=>
   intro k f s h1 _
   rcases Nat.eq_zero_or_pos k with rfl | hk
   · exact Nat.zero_le _
   · exact absurd (h1 0 hk).1 (Nat.not_lt_zero _)
 | succ n ih=>
   intro k f s h1 h2
   rw [Pl.cnt_succ]
   by_cases hex:∃i,i < k∧s i=n
   · obtain ⟨i0,hi0,he⟩:=hex
     have hf:f n=true:=by rw [←he];exact (h1 i0 hi0).2
     rw [if_pos hf]
     have hne:∀i,i < k→i≠i0→s i < n:=fun i hi hn=>by
      have h:=(h1 i hi).1
      have:s i≠n:=fun e=>hn (h2 i i0 hi hi0 (e.trans he.symm))
      omega
     have h:=ih (k - 1) f (fun i=>if i=i0 then s (k - 1) else s i) (fun i hi=>by
      show (if i=i0 then s (k - 1) else s i) < n∧f (if i=i0 then s (k - 1) else s i)=true
      split
      · exact ⟨hne (k - 1) (by omega) (by omega),(h1 (k - 1) (by omega)).2⟩
      · rename_i hn
        exact ⟨hne i (by omega) hn,(h1 i (by omega)).2⟩) (fun i j hi hj he'=>by
      have he':(if i=i0 then s (k - 1) else s i)=(if j=i0 then s (k - 1) else s j):=he'
      split at he' <;> split at he'
      · omega
      · have:=h2 (k - 1) j (by omega) (by omega) he'
        omega
      · have:=h2 i (k - 1) (by omega) (by omega) he'
        omega
      · exact h2 i j (by omega) (by omega) he')
     omega
   · have h:=ih k f s (fun i hi=>by
      have h:=h1 i hi
      have:s i≠n:=fun e=>hex ⟨i,hi,e⟩
      exact ⟨by omega,h.2⟩) h2
     omega
theorem pigeon_more {n k:Nat} {f:Nat→Bool} {s:Nat→Nat} (h1:∀i,i < k→s i < n∧f (s i)=true) (h2:∀i j,i < k→j < k→s i=s j→i=j) {p:Nat} (hp:p < n) (hf:f p=true) (hn:∀i,i < k→s i≠p):k < Pl.cnt f n:=
 pigeon n (k+1) f (fun i=>if i=k then p else s i) (fun i hi=>by
  show (if i=k then p else s i) < n∧f (if i=k then p else s i)=true
  split
  · exact ⟨hp,hf⟩
  · exact h1 i (by omega)) (fun i j hi hj he=>by
  have he:(if i=k then p else s i)=(if j=k then p else s j):=he
  split at he <;> split at he
  · omega
  · exact absurd he.symm (hn j (by omega))
  · exact absurd he (hn i (by omega))
  · exact h2 i j (by omega) (by omega) he)
theorem covered:∀(n k:Nat) (f:Nat→Bool) (s:Nat→Nat),(∀p,p < n→f p=true→∃i,i < k∧s i=p)→Pl.cnt f n≤k:=by
 intro n
 induction n with
 | zero=>intro k f s _;exact Nat.zero_le _
 | succ n ih=>
   intro k f s h
   rw [Pl.cnt_succ]
   by_cases hf:f n=true
   · rw [if_pos hf]
     obtain ⟨i0,hi0,he⟩:=h n (Nat.lt_succ_self n) hf
     have:=ih (k - 1) f (fun i=>if i=i0 then s (k - 1) else s i) (fun p hp hfp=>by
      obtain ⟨i,hi,hs⟩:=h p (by omega) hfp
      have hii:i≠i0:=fun e=>by subst e;omega
      by_cases hk:i=k - 1
      · refine ⟨i0,by omega,?_⟩
        show (if i0=i0 then s (k - 1) else s i0)=p
        rw [if_pos rfl,←hk,hs]
      · refine ⟨i,by omega,?_⟩
        show (if i=i0 then s (k - 1) else s i)=p
        rw [if_neg hii,hs])
     omega
   · rw [if_neg hf]
     have:=ih k f s (fun p hp hfp=>h p (by omega) hfp)
     omega
theorem cnt_split (f g:Nat→Bool):∀n,Pl.cnt f n=Pl.cnt (fun j=>f j&&!g j) n+Pl.cnt (fun j=>f j&&g j) n
 | 0=>rfl
 | n+1=>by
   have:=cnt_split f g n
   rw [Pl.cnt_succ,Pl.cnt_succ,Pl.cnt_succ]
   cases f n <;> cases g n <;> simp <;> omega
theorem cnt_all (f:Nat→Bool):∀n,(∀i,i < n→f i=true)→Pl.cnt f n=n
 | 0,_=>rfl
 | n+1,h=>by
   rw [Pl.cnt_succ,cnt_all f n (fun i hi=>h i (by omega)),if_pos (h n (Nat.lt_succ_self n))]
theorem cnt_none (f:Nat→Bool):∀n,(∀i,i < n→f i=false)→Pl.cnt f n=0
 | 0,_=>rfl
 | n+1,h=>by
   rw [Pl.cnt_succ,cnt_none f n (fun i hi=>h i (by omega)),h n (Nat.lt_succ_self n)]
   rfl
theorem cnt_to (f:Nat→Bool) (n:Nat):Pl.cnt f n≤n:=by
 have:=Pl.cnt_not f n
 omega
theorem all_met {n:Nat} {S:Nat→Int} (h:∀p,p < n→∃j,j < n∧S j=((p:Nat):Int)):∀j,j < n→∃p,p < n∧S j=((p:Nat):Int):=fun j hj=>by
 have hc:∀p,∃j,p < n→j < n∧S j=((p:Nat):Int):=fun p=>by
  by_cases hp:p < n
  · obtain ⟨j,h1,h2⟩:=h p hp
    exact ⟨j,fun _=>⟨h1,h2⟩⟩
  · exact ⟨0,fun e=>absurd e hp⟩
 obtain ⟨pos,hpos⟩:=Classical.axiomOfChoice hc
 obtain ⟨p,hp,rfl⟩:=inj_onto n pos (fun p hp=>(hpos p hp).1) (fun p q hp hq he=>by
  have h1:=(hpos p hp).2
  have h2:=(hpos q hq).2
  rw [he,h2] at h1
  omega) j hj
 exact ⟨p,hp,(hpos p hp).2⟩
def xi (X:Nat→Nat):Nat→Int:=fun i=>((X i:Nat):Int)
def upK (X:Nat→Nat) (n:Nat):Nat→Bool
 | 0=>false
 | k+1=>decide (X (n - 1 - (k+1)) < X (n - 1 - k)) || (decide (X (n - 1 - (k+1))=X (n - 1 - k))&&upK X n k)
def up (X:Nat→Nat) (n p:Nat):Bool:=upK X n (n - 1 - p)
def dip (X:Nat→Nat) (n p:Nat):Bool:=decide (0 < p)&&(up X n p&&!up X n (p - 1))
section
variable {X:Nat→Nat} {n:Nat}
theorem up_last:up X n (n - 1)=false:=by
 unfold up
 rw [Nat.sub_self]
 rfl
theorem up_at {p:Nat} (hp:p+1 < n):up X n p=(decide (X p < X (p+1)) || (decide (X p=X (p+1))&&up X n (p+1))):=by
 have e:n - 1 - p=(n - 1 - (p+1))+1:=by omega
 unfold up
 rw [e]
 show (decide (X (n - 1 - ((n - 1 - (p+1))+1)) < X (n - 1 - (n - 1 - (p+1)))) || _)=_
 rw [show n - 1 - ((n - 1 - (p+1))+1)=p by omega,show n - 1 - (n - 1 - (p+1))=p+1 by omega]
theorem up_step {p:Nat} (hp:p+1 < n):up X n p=true↔X p < X (p+1)∨X p=X (p+1)∧up X n (p+1)=true:=by
 rw [up_at hp]
 simp
theorem up_lt {p:Nat} (hp:p < n) (h:up X n p=true):p+1 < n:=by
 by_cases h1:p+1=n
 · have:p=n - 1:=by omega
   rw [this,up_last] at h
   cases h
 · omega
theorem up_down {p:Nat} (hp:p+1 < n) (h:up X n p=false):X (p+1)≤X p∧(X p=X (p+1)→up X n (p+1)=false):=by
 have h1:=up_step (X:=X) hp
 rw [h] at h1
 have h2:¬(X p < X (p+1)∨X p=X (p+1)∧up X n (p+1)=true):=fun hh=>by
  have:=h1.2 hh
  cases this
 refine ⟨by omega,fun e=>?_⟩
 cases h3:up X n (p+1)
 · rfl
 · exact absurd (.inr ⟨e,h3⟩) h2
theorem up_up {p:Nat} (hp:p < n) (h:up X n p=true):X p≤X (p+1)∧(X p=X (p+1)→up X n (p+1)=true):=by
 have h1:=(up_step (X:=X) (up_lt hp h)).1 h
 rcases h1 with h1 | h1
 · exact ⟨by omega,fun e=>by omega⟩
 · exact ⟨by omega,fun _=>h1.2⟩
theorem dip_of {p:Nat} (h0:0 < p) (h1:up X n p=true) (h2:up X n (p - 1)=false):dip X n p=true:=by
 unfold dip
 rw [h1,h2]
 simp [h0]
theorem dip_is {p:Nat} (h:dip X n p=true):0 < p∧up X n p=true∧up X n (p - 1)=false:=by
 unfold dip at h
 simp at h
 exact h
theorem fall_less:∀(m p q:Nat),n - p≤m→p < n→q < n→X p=X q→up X n p=false→up X n q=true→SLess (xi X) n p q:=by
 intro m
 induction m with
 | zero=>intro p q hm hp;omega
 | succ m ih=>
   intro p q hm hp hq he h1 h2
   have hq1:=up_lt hq h2
   have hu:=up_up hq h2
   have he':xi X p=xi X q:=by show ((X p:Nat):Int)=((X q:Nat):Int);rw [he]
   rw [sless_step hp hq he']
   by_cases hl:p+1=n
   · rw [sless_end (by omega) (by omega)]
     exact ⟨hl,hq1⟩
   · have hd:=up_down (by omega) h1
     by_cases hx:X (p+1)=X (q+1)
     · have e1:X p=X (p+1):=by omega
       have e2:X q=X (q+1):=by omega
       exact ih (p+1) (q+1) (by omega) (by omega) hq1 hx (hd.2 e1) (hu.2 e2)
     · rw [sless_now (by omega) hq1 (fun e=>hx (by have:((X (p+1):Nat):Int)=((X (q+1):Nat):Int):=e;omega))]
       show ((X (p+1):Nat):Int) < ((X (q+1):Nat):Int)
       omega
end
def hd (X:Nat→Nat) (n x:Nat):Nat:=Pl.cnt (fun p=>decide (X p < x)) n
def nf (X:Nat→Nat) (n x:Nat):Nat:=Pl.cnt (fun p=>decide (X p=x)&&!up X n p) n
def nr (X:Nat→Nat) (n x:Nat):Nat:=Pl.cnt (fun p=>decide (X p=x)&&up X n p) n
def mid (X:Nat→Nat) (n x:Nat):Nat:=hd X n x+nf X n x
section
variable {X:Nat→Nat} {n:Nat}
theorem cnt_below (X:Nat→Nat) (x:Nat):∀n,Pl.cnt (fun p=>decide (X p < x+1)) n=Pl.cnt (fun p=>decide (X p < x)) n+Pl.cnt (fun p=>decide (X p=x)) n
 | 0=>rfl
 | n+1=>by
   have:=cnt_below X x n
   rw [Pl.cnt_succ,Pl.cnt_succ,Pl.cnt_succ]
   by_cases h1:X n < x
   · simp [h1,show X n < x+1 by omega,show X n≠x by omega];omega
   · by_cases h2:X n=x
     · simp [h2];omega
     · simp [h1,h2,show ¬X n < x+1 by omega];omega
theorem hd_succ (x:Nat):hd X n (x+1)=mid X n x+nr X n x:=by
 unfold hd mid nf nr hd
 rw [cnt_below,cnt_split (fun p=>decide (X p=x)) (up X n) n]
 omega
theorem hd_mid (x:Nat):hd X n x≤mid X n x∧mid X n x≤hd X n (x+1):=by
 rw [hd_succ]
 unfold mid
 omega
theorem hd_mono {x y:Nat} (h:x≤y):hd X n x≤hd X n y:=by
 obtain ⟨d,rfl⟩:=Nat.le.dest h
 clear h
 induction d with
 | zero=>exact Nat.le_refl _
 | succ d ih=>
   have:=hd_mid (X:=X) (n:=n) (x+d)
   exact Nat.le_trans ih (Nat.le_trans this.1 this.2)
theorem hd_zero:hd X n 0=0:=cnt_none _ _ fun i _=>by simp
theorem hd_full {B:Nat} (hB:∀p,p < n→X p < B):hd X n B=n:=cnt_all _ _ fun i hi=>by simp [hB i hi]
theorem hd_to (x:Nat):hd X n x≤n:=cnt_to _ _
theorem part_one {x y j:Nat} (h1:hd X n x≤j) (h2:j < hd X n (x+1)) (h3:hd X n y≤j) (h4:j < hd X n (y+1)):x=y:=by
 rcases Nat.lt_trichotomy x y with h | h | h
 · have:=hd_mono (X:=X) (n:=n) (show x+1≤y from h)
   omega
 · exact h
 · have:=hd_mono (X:=X) (n:=n) (show y+1≤x from h)
   omega
theorem part_of {B:Nat} (hB:∀p,p < n→X p < B) {j:Nat} (hj:j < n):∃x,x < B∧hd X n x≤j∧j < hd X n (x+1):=by
 have h:∀y,j < hd X n y→∃x,x < y∧hd X n x≤j∧j < hd X n (x+1):=by
  intro y
  induction y with
  | zero=>intro h;rw [hd_zero] at h;omega
  | succ y ih=>
    intro h
    by_cases hy:j < hd X n y
    · obtain ⟨x,h1,h2⟩:=ih hy
      exact ⟨x,by omega,h2⟩
    · exact ⟨y,by omega,by omega,h⟩
 exact h B (by rw [hd_full hB];exact hj)
theorem part_lt {x y i j:Nat} (h1:hd X n x≤i) (h4:j < hd X n (y+1)) (hij:i≤j):x≤y:=by
 rcases Nat.lt_or_ge y x with h | h
 · have:=hd_mono (X:=X) (n:=n) (show y+1≤x from h)
   omega
 · exact h
end
end Go.Proofs.YtcidobpbepeakaaGreat
namespace Go.Proofs.YtcidobpbepeakaaGreat
def putI (U:Nat→Int) (j:Nat) (x:Int):Nat→Int:=fun i=>if i=j then x else U i
theorem putI_at (U:Nat→Int) (j:Nat) (x:Int):putI U j x j=x:=if_pos rfl
theorem putI_off {U:Nat→Int} {i j:Nat} (x:Int) (h:i≠j):putI U j x i=U i:=if_neg h
section
variable {X:Nat→Nat} {n B:Nat}
structure Dips (X:Nat→Nat) (n m:Nat) (D:Nat→Nat):Prop where
 is:∀k,k < m→D k < n∧dip X n (D k)=true
 inj:∀k l,k < m→l < m→D k=D l→k=l
 all:∀p,p < n→dip X n p=true→∃k,k < m∧D k=p
def cD (X D:Nat→Nat) (x k:Nat):Nat:=Pl.cnt (fun l=>decide (X (D l)=x)) k
def posD (X:Nat→Nat) (n m:Nat) (D:Nat→Nat) (l:Nat):Nat:=hd X n (X (D l)+1) - (cD X D (X (D l)) m - cD X D (X (D l)) l)
theorem cD_succ (D:Nat→Nat) (x k:Nat):cD X D x (k+1)=cD X D x k+(if X (D k)=x then 1 else 0):=by
 unfold cD
 rw [Pl.cnt_succ]
 by_cases h:X (D k)=x <;> simp [h]
theorem cD_mono (D:Nat→Nat) (x:Nat) {k l:Nat} (h:k≤l):cD X D x k≤cD X D x l:=Pl.cnt_mono _ h
theorem sel_nat (f:Nat→Bool):∀m,∃s:Nat→Nat,(∀i,i < Pl.cnt f m→s i < m∧f (s i)=true)∧∀i j,i < Pl.cnt f m→j < Pl.cnt f m→s i=s j→i=j
 | 0=>⟨fun _=>0,fun i hi=>absurd hi (Nat.not_lt_zero i),fun i _ hi=>absurd hi (Nat.not_lt_zero i)⟩
 | m+1=>by
   obtain ⟨s,h1,h2⟩:=sel_nat f m
   by_cases hf:f m=true
   · refine ⟨fun i=>if i=Pl.cnt f m then m else s i,fun i hi=>?_,fun i j hi hj he=>?_⟩
     · rw [Pl.cnt_succ,if_pos hf] at hi
       show (if i=Pl.cnt f m then m else s i) < m+1∧f (if i=Pl.cnt f m then m else s i)=true
       split
       · exact ⟨Nat.lt_succ_self m,hf⟩
       · have:=h1 i (by omega)
         exact ⟨by omega,this.2⟩
     · rw [Pl.cnt_succ,if_pos hf] at hi hj
       have he:(if i=Pl.cnt f m then m else s i)=(if j=Pl.cnt f m then m else s j):=he
       split at he <;> split at he
       · omega
       · have:=(h1 j (by omega)).1
         omega
       · have:=(h1 i (by omega)).1
         omega
       · exact h2 i j (by omega) (by omega) he
   · have e:Pl.cnt f (m+1)=Pl.cnt f m:=by rw [Pl.cnt_succ,if_neg hf];rfl
     rw [e]
     exact ⟨s,fun i hi=>⟨by have:=(h1 i hi).1;omega,(h1 i hi).2⟩,h2⟩
theorem Dips.count {m:Nat} {D:Nat→Nat} (h:Dips X n m D) (x:Nat):cD X D x m≤nr X n x:=by
 obtain ⟨s,h1,h2⟩:=sel_nat (fun l=>decide (X (D l)=x)) m
 refine pigeon n _ _ (fun i=>D (s i)) (fun i hi=>?_) (fun i j hi hj he=>h2 i j hi hj (h.inj _ _ (h1 i hi).1 (h1 j hj).1 he))
 obtain ⟨g1,g2⟩:=h1 i hi
 obtain ⟨g3,g4⟩:=h.is _ g1
 refine ⟨g3,?_⟩
 show (decide (X (D (s i))=x)&&up X n (D (s i)))=true
 rw [g2,(dip_is g4).2.1]
 rfl
theorem Dips.pos {m:Nat} {D:Nat→Nat} (h:Dips X n m D) {l:Nat} (hl:l < m):mid X n (X (D l))≤posD X n m D l∧posD X n m D l < hd X n (X (D l)+1)∧cD X D (X (D l)) l < cD X D (X (D l)) m∧cD X D (X (D l)) m≤hd X n (X (D l)+1):=by
 have h1:=h.count (X (D l))
 have h2:=hd_succ (X:=X) (n:=n) (X (D l))
 have h3:=cD_succ (X:=X) D (X (D l)) l
 rw [if_pos rfl] at h3
 have h4:=cD_mono (X:=X) D (X (D l)) (show l+1≤m from hl)
 unfold posD
 omega
theorem Dips.pos_lt {m:Nat} {D:Nat→Nat} (h:Dips X n m D) {l:Nat} (hl:l < m):posD X n m D l < n:=Nat.lt_of_lt_of_le (h.pos hl).2.1 (hd_to _)
theorem Dips.pos_rise {m:Nat} {D:Nat→Nat} (h:Dips X n m D) {k l:Nat} (hkl:k < l) (hl:l < m) (he:X (D k)=X (D l)):posD X n m D k < posD X n m D l:=by
 have h1:=h.pos hl
 have h2:=h.pos (l:=k) (by omega)
 have h3:=cD_succ (X:=X) D (X (D l)) k
 rw [if_pos he] at h3
 have h4:=cD_mono (X:=X) D (X (D l)) (show k+1≤l from hkl)
 have e:posD X n m D k=hd X n (X (D l)+1) - (cD X D (X (D l)) m - cD X D (X (D l)) k):=by unfold posD;rw [he]
 have e':posD X n m D l=hd X n (X (D l)+1) - (cD X D (X (D l)) m - cD X D (X (D l)) l):=rfl
 omega
theorem Dips.pos_one {m:Nat} {D:Nat→Nat} (h:Dips X n m D) {k l:Nat} (hk:k < m) (hl:l < m) (he:posD X n m D k=posD X n m D l):k=l:=by
 have h1:=h.pos hk
 have h2:=h.pos hl
 have h3:=hd_mid (X:=X) (n:=n) (X (D k))
 have h4:=hd_mid (X:=X) (n:=n) (X (D l))
 have hx:X (D k)=X (D l):=part_one (X:=X) (n:=n) (j:=posD X n m D k) (by omega) (by omega) (by omega) (by omega)
 rcases Nat.lt_trichotomy k l with h5 | h5 | h5
 · have:=h.pos_rise h5 hl hx
   omega
 · exact h5
 · have:=h.pos_rise h5 hk hx.symm
   omega
structure One (X:Nat→Nat) (n B m:Nat) (D:Nat→Nat) (k:Nat) (S N:Nat→Int):Prop where
 next:∀x,x < B→N x=((hd X n (x+1) - (cD X D x m - cD X D x k):Nat):Int)
 laid:∀l,k≤l→l < m→S (posD X n m D l)=((D l:Nat):Int)
 rest:∀i,i < n→S i= -1∨∃l,k≤l∧l < m∧i=posD X n m D l
theorem One.start {m:Nat} {D:Nat→Nat} {S N:Nat→Int} (hN:∀x,x < B→N x=((hd X n (x+1):Nat):Int)) (hS:∀i,i < n→S i= -1):One X n B m D m S N:=
 ⟨fun x hx=>by rw [hN x hx,Nat.sub_self,Nat.sub_zero],fun l h1 h2=>by omega,fun i hi=>.inl (hS i hi)⟩
theorem One.room {m:Nat} {D:Nat→Nat} {k:Nat} {S N:Nat→Int} (hD:Dips X n m D) (hB:∀p,p < n→X p < B) (h:One X n B m D (k+1) S N) (hk:k < m):N (X (D k))=((posD X n m D k+1:Nat):Int):=by
 rw [h.next _ (hB _ (hD.is k hk).1)]
 have h1:=hD.pos hk
 have h3:=cD_succ (X:=X) D (X (D k)) k
 rw [if_pos rfl] at h3
 have h4:=cD_mono (X:=X) D (X (D k)) (show k+1≤m from hk)
 have e:posD X n m D k=hd X n (X (D k)+1) - (cD X D (X (D k)) m - cD X D (X (D k)) k):=rfl
 congr 1
 omega
theorem One.step {m:Nat} {D:Nat→Nat} {k:Nat} {S N:Nat→Int} (hD:Dips X n m D) (h:One X n B m D (k+1) S N) (hk:k < m):
    One X n B m D k (putI S (posD X n m D k) ((D k:Nat):Int)) (putI N (X (D k)) ((posD X n m D k:Nat):Int)):=by
 refine ⟨fun x hx=>?_,fun l h1 h2=>?_,fun i hi=>?_⟩
 · by_cases hxx:x=X (D k)
   · subst hxx
     rw [putI_at]
     rfl
   · rw [putI_off _ hxx,h.next x hx,cD_succ (X:=X) D x k,if_neg (fun e=>hxx e.symm)]
     rfl
 · by_cases hl:l=k
   · subst hl
     exact putI_at _ _ _
   · rw [putI_off _ (fun e=>hl (hD.pos_one h2 hk e))]
     exact h.laid l (by omega) h2
 · by_cases hii:i=posD X n m D k
   · exact .inr ⟨k,Nat.le_refl k,hk,hii⟩
   · rw [putI_off _ hii]
     rcases h.rest i hi with h1 | ⟨l,h1,h2,h3⟩
     · exact .inl h1
     · exact .inr ⟨l,by omega,h2,h3⟩
structure Laid1 (X:Nat→Nat) (n m:Nat) (D:Nat→Nat) (S:Nat→Int):Prop where
 rest:∀j,j < n→S j= -1∨∃p,p < n∧S j=((p:Nat):Int)∧dip X n p=true∧mid X n (X p)≤j∧j < hd X n (X p+1)
 all:∀p,p < n→dip X n p=true→∃j,j < n∧S j=((p:Nat):Int)
 ord:∀i j p q,i < j→j < n→S i=((p:Nat):Int)→S j=((q:Nat):Int)→X p=X q→∃k l,k < l∧l < m∧D k=p∧D l=q
theorem One.done {m:Nat} {D:Nat→Nat} {S N:Nat→Int} (hD:Dips X n m D) (h:One X n B m D 0 S N):Laid1 X n m D S:=by
 refine ⟨fun j hj=>?_,fun p hp hd=>?_,fun i j p q hij hj hi hjq he=>?_⟩
 · rcases h.rest j hj with h1 | ⟨l,_,h2,rfl⟩
   · exact .inl h1
   · have h3:=hD.pos h2
     exact .inr ⟨D l,(hD.is l h2).1,h.laid l (Nat.zero_le _) h2,(hD.is l h2).2,h3.1,h3.2.1⟩
 · obtain ⟨k,hk,rfl⟩:=hD.all p hp hd
   exact ⟨posD X n m D k,hD.pos_lt hk,h.laid k (Nat.zero_le _) hk⟩
 · rcases h.rest i (by omega) with h1 | ⟨k,_,hk,rfl⟩
   · rw [h1] at hi;omega
   · rcases h.rest j hj with h1 | ⟨l,_,hl,rfl⟩
     · rw [h1] at hjq;omega
     · rw [h.laid k (Nat.zero_le _) hk] at hi
       rw [h.laid l (Nat.zero_le _) hl] at hjq
       obtain rfl:D k=p:=by omega
       obtain rfl:D l=q:=by omega
       rcases Nat.lt_trichotomy k l with h5 | h5 | h5
       · exact ⟨k,l,h5,hl,rfl,rfl⟩
       · subst h5;omega
       · have:=hD.pos_rise h5 hk he.symm
         omega
theorem Laid1.inj {m:Nat} {D:Nat→Nat} {S:Nat→Int} (hD:Dips X n m D) (h:Laid1 X n m D S):∀i j,i < j→j < n→S i=S j→S i= -1:=fun i j hij hj he=>by
 rcases h.rest i (by omega) with h1 | ⟨p,_,h1,_⟩
 · exact h1
 · obtain ⟨k,l,h2,h3,h4,h5⟩:=h.ord i j p p hij hj h1 (he.symm.trans h1) rfl
   have:=hD.inj k l (by omega) h3 (h4.trans h5.symm)
   omega
structure Two (X:Nat→Nat) (n B:Nat) (S1:Nat→Int) (i:Nat) (S N:Nat→Int):Prop where
 next:∀x,x < B→∃k:Nat,N x=(k:Int)∧hd X n x≤k∧k≤mid X n x
 full:∀x,x < B→∀j,hd X n x≤j→(j:Int) < N x→∃p,p < n∧S j=((p:Nat):Int)∧up X n p=false∧X p=x
 rest:∀j,j < n→S j= -1∨∃p,p < n∧S j=((p:Nat):Int)∧((up X n p=false∧hd X n (X p)≤j∧(j:Int) < N (X p))∨(dip X n p=true∧mid X n (X p)≤j∧j < hd X n (X p+1)))
 dips:∀j p,j < n→dip X n p=true→(S j=((p:Nat):Int)↔S1 j=((p:Nat):Int))
 inj:∀j j',j < n→j' < n→S j=S j'→S j≠ -1→j=j'
 src:∀j p,j < n→p < n→S j=((p:Nat):Int)→up X n p=false→p+1=n∨∃j',j' < i∧j' < j∧S j'=((p+1:Nat):Int)
 done:∀j p,j < i→j < n→p < n→S j=((p+1:Nat):Int)→up X n p=false→∃j',j' < n∧j < j'∧S j'=((p:Nat):Int)
 ord:∀j1 j2 p q,j1 < j2→j2 < n→S j1=((p:Nat):Int)→S j2=((q:Nat):Int)→X p=X q→up X n p=false→up X n q=false→p+1=n∨∃k1 k2,k1 < k2∧k2 < j2∧S k1=((p+1:Nat):Int)∧S k2=((q+1:Nat):Int)
theorem Two.start {m:Nat} {D:Nat→Nat} {S1 N:Nat→Int} (hD:Dips X n m D) (h:Laid1 X n m D S1) (hN:∀x,x < B→N x=((hd X n x:Nat):Int)):Two X n B S1 0 S1 N:=by
 refine ⟨fun x hx=>⟨_,hN x hx,Nat.le_refl _,(hd_mid x).1⟩,fun x hx j h1 h2=>?_,fun j hj=>?_,fun _ _ _ _=>Iff.rfl,fun j j' hj hj' he hne=>?_,fun j p hj hp he hu=>?_,fun j p h0=>absurd h0 (Nat.not_lt_zero j),fun j1 j2 p q h1 h2 h3 h4 h5 h6 h7=>?_⟩
 · rw [hN x hx] at h2;omega
 · rcases h.rest j hj with h1 | ⟨p,h1,h2,h3,h4⟩
   · exact .inl h1
   · exact .inr ⟨p,h1,h2,.inr ⟨h3,h4⟩⟩
 · rcases Nat.lt_trichotomy j j' with h5 | h5 | h5
   · exact absurd (h.inj hD j j' h5 hj' he) hne
   · exact h5
   · exact absurd (he.trans (h.inj hD j' j h5 hj he.symm▸rfl:S1 j'= -1)) hne
 · rcases h.rest j hj with h1 | ⟨p',h1,h2,h3,h4⟩
   · rw [h1] at he;omega
   · rw [h2] at he
     obtain rfl:p'=p:=by omega
     rw [(dip_is h3).2.1] at hu
     cases hu
 · rcases h.rest j1 (by omega) with g1 | ⟨p',g1,g2,g3,g4⟩
   · rw [g1] at h3;omega
   · rw [g2] at h3
     obtain rfl:p'=p:=by omega
     rw [(dip_is g3).2.1] at h6
     cases h6
end
end Go.Proofs.YtcidobpbepeakaaGreat
namespace Go.Proofs.YtcidobpbepeakaaGreat
section
variable {X:Nat→Nat} {n B:Nat} {S1 S N:Nat→Int} {i:Nat}
theorem Two.in_part (h:Two X n B S1 i S N) (hB:∀p,p < n→X p < B) {j:Nat} (hj:j < n) (hne:S j≠ -1):∃p,p < n∧S j=((p:Nat):Int)∧hd X n (X p)≤j∧j < hd X n (X p+1)∧((up X n p=false∧(j:Int) < N (X p)∧j < mid X n (X p))∨(dip X n p=true∧mid X n (X p)≤j)):=by
 rcases h.rest j hj with h1 | ⟨p,hp,h1,h2⟩
 · exact absurd h1 hne
 · obtain ⟨k,hk,hk1,hk2⟩:=h.next (X p) (hB p hp)
   have hm:=hd_mid (X:=X) (n:=n) (X p)
   refine ⟨p,hp,h1,?_⟩
   rcases h2 with ⟨h2,h3,h4⟩ | ⟨h2,h3,h4⟩
   · rw [hk] at h4
     exact ⟨h3,by omega,.inl ⟨h2,by rw [hk];exact h4,by omega⟩⟩
   · exact ⟨by omega,h4,.inr ⟨h2,h3⟩⟩
theorem Two.room (h:Two X n B S1 i S N) (hB:∀p,p < n→X p < B) {p:Nat} (hp:p < n) (hu:up X n p=false) (hnew:∀j,j < n→S j≠((p:Nat):Int)):
    ∃k:Nat,N (X p)=(k:Int)∧hd X n (X p)≤k∧k < mid X n (X p)∧k < n∧S k= -1:=by
 obtain ⟨k,hk,hk1,hk2⟩:=h.next (X p) (hB p hp)
 have hm:=hd_mid (X:=X) (n:=n) (X p)
 have hn:=hd_to (X:=X) (n:=n) (X p+1)
 have hfull:=h.full (X p) (hB p hp)
 have hlt:k < mid X n (X p):=by
  have h1:=pigeon_more (n:=n) (k:=k - hd X n (X p)) (f:=fun q=>decide (X q=X p)&&!up X n q) (s:=fun t=>(S (hd X n (X p)+t)).toNat) (fun t ht=>by
   obtain ⟨q,hq,e,h2,h3⟩:=hfull (hd X n (X p)+t) (by omega) (by rw [hk];omega)
   show (S (hd X n (X p)+t)).toNat < n∧(decide (X (S (hd X n (X p)+t)).toNat=X p)&&!up X n (S (hd X n (X p)+t)).toNat)=true
   rw [e,Int.toNat_natCast]
   exact ⟨hq,by rw [h2,h3];simp⟩) (fun t t' ht ht' he=>by
   obtain ⟨q,hq,e,_⟩:=hfull (hd X n (X p)+t) (by omega) (by rw [hk];omega)
   obtain ⟨q',hq',e',_⟩:=hfull (hd X n (X p)+t') (by omega) (by rw [hk];omega)
   have he:(S (hd X n (X p)+t)).toNat=(S (hd X n (X p)+t')).toNat:=he
   rw [e,e',Int.toNat_natCast,Int.toNat_natCast] at he
   have:=h.inj (hd X n (X p)+t) (hd X n (X p)+t') (by omega) (by omega) (by rw [e,e',he]) (by rw [e];omega)
   omega) hp (by simp [hu]) (fun t ht he=>by
   have he:(S (hd X n (X p)+t)).toNat=p:=he
   obtain ⟨q,hq,e,_⟩:=hfull (hd X n (X p)+t) (by omega) (by rw [hk];omega)
   rw [e,Int.toNat_natCast] at he
   subst he
   exact hnew _ (by omega) e)
  have h1:k - hd X n (X p) < nf X n (X p):=h1
  unfold mid
  omega
 have hkn:k < n:=by omega
 refine ⟨k,hk,hk1,hlt,hkn,?_⟩
 by_cases hne:S k= -1
 · exact hne
 · obtain ⟨q,hq,e,h1,h2,h3⟩:=h.in_part hB hkn hne
   have hx:X q=X p:=part_one h1 h2 hk1 (by omega)
   rw [hx] at h3
   rcases h3 with ⟨_,h3,_⟩ | ⟨_,h3⟩
   · rw [hk] at h3;omega
   · omega
theorem Two.ahead (h:Two X n B S1 i S N) (hB:∀p,p < n→X p < B) {p k:Nat} (hp:p+1 < n) (hu:up X n p=false) (hi:i < n) (hS:S i=((p+1:Nat):Int)) (hk:N (X p)=(k:Int)) (hk1:hd X n (X p)≤k):i < k:=by
 obtain ⟨q,hq,e,h1,h2,h3⟩:=h.in_part hB hi (by rw [hS];omega)
 obtain rfl:q=p+1:=by rw [hS] at e;omega
 have hd':=up_down hp hu
 by_cases hx:X p=X (p+1)
 · rcases h3 with ⟨_,h3,_⟩ | ⟨h3,_⟩
   · rw [←hx,hk] at h3
     omega
   · have:=(dip_is h3).2.1
     rw [hd'.2 hx] at this
     cases this
 · have:=hd_mono (X:=X) (n:=n) (show X (p+1)+1≤X p by omega)
   omega
theorem Two.new (h:Two X n B S1 i S N) {p:Nat} (hp:p+1 < n) (hu:up X n p=false) (hi:i < n) (hS:S i=((p+1:Nat):Int)):∀j,j < n→S j≠((p:Nat):Int):=fun j hj he=>by
 rcases h.src j p hj (by omega) he hu with h1 | ⟨j',h1,h2,h3⟩
 · omega
 · have:=h.inj j' i (by omega) hi (h3.trans hS.symm) (by rw [h3];omega)
   omega
theorem Two.put (h:Two X n B S1 i S N) (hB:∀p,p < n→X p < B) {p k i':Nat} (hp:p < n) (hu:up X n p=false)
    (hk:N (X p)=(k:Int)) (hk1:hd X n (X p)≤k) (hk2:k < mid X n (X p)) (hkn:k < n) (hS:S k= -1) (hnew:∀j,j < n→S j≠((p:Nat):Int))
    (hs:(p+1=n∧i'=i∧i=0∧∀j q,j < n→q < n→S j=((q:Nat):Int)→up X n q=true)∨(i < k∧i'=i+1∧S i=((p+1:Nat):Int))):
    Two X n B S1 i' (putI S k ((p:Nat):Int)) (putI N (X p) ((k+1:Nat):Int)):=by
 have hkeep:∀(j q:Nat),S j=((q:Nat):Int)→putI S k ((p:Nat):Int) j=((q:Nat):Int):=fun j q e=>by
  rw [putI_off _ (fun e'=>by rw [e',hS] at e;omega)]
  exact e
 have hm:=hd_mid (X:=X) (n:=n) (X p)
 refine ⟨fun x hx=>?_,fun x hx j h1 h2=>?_,fun j hj=>?_,fun j q hj hd=>?_,fun j j' hj hj' he hne=>?_,fun j q hj hq he hq'=>?_,fun j q hj hjn hq he hq'=>?_,fun j1 j2 p1 q1 h1 h2 h3 h4 h5 h6 h7=>?_⟩
 · by_cases hxx:x=X p
   · subst hxx
     exact ⟨k+1,putI_at _ _ _,by omega,by omega⟩
   · rw [putI_off _ hxx]
     exact h.next x hx
 · by_cases hxx:x=X p
   · subst hxx
     rw [putI_at] at h2
     by_cases hj:j=k
     · subst hj
       exact ⟨p,hp,putI_at _ _ _,hu,rfl⟩
     · obtain ⟨q,hq,e,h3⟩:=h.full (X p) hx j h1 (by rw [hk];omega)
       exact ⟨q,hq,hkeep j q e,h3⟩
   · rw [putI_off _ hxx] at h2
     obtain ⟨q,hq,e,h3⟩:=h.full x hx j h1 h2
     exact ⟨q,hq,hkeep j q e,h3⟩
 · by_cases hjk:j=k
   · subst hjk
     refine .inr ⟨p,hp,putI_at _ _ _,.inl ⟨hu,hk1,?_⟩⟩
     rw [putI_at]
     omega
   · rw [putI_off _ hjk]
     rcases h.rest j hj with h1 | ⟨q,hq,e,h2⟩
     · exact .inl h1
     · refine .inr ⟨q,hq,e,?_⟩
       rcases h2 with ⟨h2,h3,h4⟩ | h2
       · refine .inl ⟨h2,h3,?_⟩
         by_cases hxx:X q=X p
         · rw [hxx,putI_at]
           rw [hxx,hk] at h4
           omega
         · rw [putI_off _ hxx]
           exact h4
       · exact .inr h2
 · by_cases hjk:j=k
   · subst hjk
     rw [putI_at]
     have hn:=h.dips j q hj hd
     rw [hS] at hn
     constructor
     · intro e
       obtain rfl:p=q:=by omega
       rw [(dip_is hd).2.1] at hu
       cases hu
     · intro e
       have:=hn.2 e
       omega
   · rw [putI_off _ hjk]
     exact h.dips j q hj hd
 · by_cases hjk:j=k
   · by_cases hjk':j'=k
     · omega
     · rw [hjk,putI_at,putI_off _ hjk'] at he
       exact absurd he.symm (hnew j' hj')
   · by_cases hjk':j'=k
     · rw [hjk',putI_at,putI_off _ hjk] at he
       exact absurd he (hnew j hj)
     · rw [putI_off _ hjk,putI_off _ hjk'] at he
       rw [putI_off _ hjk] at hne
       exact h.inj j j' hj hj' he hne
 · by_cases hjk:j=k
   · subst hjk
     rw [putI_at] at he
     obtain rfl:p=q:=by omega
     rcases hs with ⟨h1,_⟩ | ⟨h1,rfl,h2⟩
     · exact .inl h1
     · exact .inr ⟨i,by omega,h1,hkeep _ _ h2⟩
   · rw [putI_off _ hjk] at he
     rcases h.src j q hj hq he hq' with h1 | ⟨j',h1,h2,h3⟩
     · exact .inl h1
     · refine .inr ⟨j',?_,h2,hkeep _ _ h3⟩
       rcases hs with ⟨_,rfl,_⟩ | ⟨_,rfl,_⟩ <;> omega
 · rcases hs with ⟨_,h1,h2,_⟩ | ⟨h1,h2,h3⟩
   · omega
   · have hjk:j≠k:=by omega
     rw [putI_off _ hjk] at he
     by_cases hji:j=i
     · subst hji
       obtain rfl:p=q:=by rw [h3] at he;omega
       exact ⟨k,hkn,h1,putI_at _ _ _⟩
     · obtain ⟨j',g1,g2,g3⟩:=h.done j q (by omega) hjn hq he hq'
       exact ⟨j',g1,g2,hkeep _ _ g3⟩
 · by_cases hj1:j1=k
   · subst hj1
     rw [putI_at] at h3
     obtain rfl:p=p1:=by omega
     have hj2:j2≠j1:=by omega
     rw [putI_off _ hj2] at h4
     obtain ⟨q',hq',e,g1,g2,g3⟩:=h.in_part hB h2 (by rw [h4];omega)
     obtain rfl:q'=q1:=by rw [h4] at e;omega
     rcases g3 with ⟨_,g3,_⟩ | ⟨g3,_⟩
     · rw [←h5,hk] at g3
       omega
     · rw [(dip_is g3).2.1] at h7
       cases h7
   · rw [putI_off _ hj1] at h3
     by_cases hj2:j2=k
     · subst hj2
       rw [putI_at] at h4
       obtain rfl:p=q1:=by omega
       obtain ⟨p',hp',e,_⟩:=h.in_part hB (show j1 < n by omega) (by rw [h3];omega)
       obtain rfl:p'=p1:=by rw [h3] at e;omega
       rcases hs with ⟨_,_,_,g⟩ | ⟨g1,g2,g3⟩
       · rw [g j1 p' (by omega) hp' h3] at h6
         cases h6
       · rcases h.src j1 p' (by omega) hp' h3 h6 with g | ⟨j',g4,g5,g6⟩
         · exact .inl g
         · exact .inr ⟨j',i,g4,g1,hkeep _ _ g6,hkeep _ _ g3⟩
     · rw [putI_off _ hj2] at h4
       rcases h.ord j1 j2 p1 q1 h1 h2 h3 h4 h5 h6 h7 with g | ⟨k1,k2,g1,g2,g3,g4⟩
       · exact .inl g
       · exact .inr ⟨k1,k2,g1,g2,hkeep _ _ g3,hkeep _ _ g4⟩
theorem Two.skip (h:Two X n B S1 i S N) (hno:∀p,p < n→S i=((p+1:Nat):Int)→up X n p=true):Two X n B S1 (i+1) S N:=by
 refine ⟨h.next,h.full,h.rest,h.dips,h.inj,fun j q hj hq he hq'=>?_,fun j q hj hjn hq he hq'=>?_,h.ord⟩
 · rcases h.src j q hj hq he hq' with h1 | ⟨j',h1,h2⟩
   · exact .inl h1
   · exact .inr ⟨j',by omega,h2⟩
 · by_cases hji:j=i
   · subst hji
     rw [hno q hq he] at hq'
     cases hq'
   · exact h.done j q (by omega) hjn hq he hq'
structure Laid2 (X:Nat→Nat) (n:Nat) (S:Nat→Int):Prop where
 fall:∀p,p < n→up X n p=false→∃j,j < n∧S j=((p:Nat):Int)
 rest:∀j,j < n→S j= -1∨∃p,p < n∧S j=((p:Nat):Int)∧hd X n (X p)≤j∧j < hd X n (X p+1)∧((up X n p=false∧j < mid X n (X p))∨(dip X n p=true∧mid X n (X p)≤j))
 inj:∀j j',j < n→j' < n→S j=S j'→S j≠ -1→j=j'
theorem Two.all {m:Nat} {D:Nat→Nat} (h:Two X n B S1 n S N) (hB:∀p,p < n→X p < B) (h1:Laid1 X n m D S1) (hl:∃j,j < n∧S j=((n - 1:Nat):Int)):Laid2 X n S:=by
 refine ⟨?_,fun j hj=>?_,h.inj⟩
 · have go:∀t p,n - p≤t→p < n→up X n p=false→∃j,j < n∧S j=((p:Nat):Int):=by
    intro t
    induction t with
    | zero=>intro p ht hp;omega
    | succ t ih=>
      intro p ht hp hu
      by_cases hpn:p+1=n
      · obtain rfl:p=n - 1:=by omega
        exact hl
      · have hj:∃j,j < n∧S j=((p+1:Nat):Int):=by
         cases hu1:up X n (p+1)
         · exact ih (p+1) (by omega) (by omega) hu1
         · have hd:dip X n (p+1)=true:=dip_of (by omega) hu1 (by rw [Nat.add_sub_cancel];exact hu)
           obtain ⟨j,hj,e⟩:=h1.all (p+1) (by omega) hd
           exact ⟨j,hj,(h.dips j (p+1) hj hd).2 e⟩
        obtain ⟨j,hj,e⟩:=hj
        obtain ⟨j',g1,_,g2⟩:=h.done j p hj hj hp e hu
        exact ⟨j',g1,g2⟩
   exact fun p hp hu=>go n p (by omega) hp hu
 · by_cases hne:S j= -1
   · exact .inl hne
   · obtain ⟨p,g1,g2,g3,g4,g5⟩:=h.in_part hB hj hne
     refine .inr ⟨p,g1,g2,g3,g4,?_⟩
     rcases g5 with ⟨g5,_,g6⟩ | g5
     · exact .inl ⟨g5,g6⟩
     · exact .inr g5
structure Ord2 (X:Nat→Nat) (n:Nat) (P:Nat→Nat→Prop):Prop where
 far:∀p q,p < n→q < n→X p < X q→¬P q p
 kind:∀p q,p < n→q < n→X p=X q→up X n p=false→up X n q=true→¬P q p
 step:∀p q,p+1 < n→q+1 < n→X p=X q→up X n p=false→up X n q=false→P q p→P (q+1) (p+1)
 last:∀p q,p+1=n→q < n→X p=X q→up X n q=false→¬P q p
theorem Two.sorted {m:Nat} {D:Nat→Nat} {P:Nat→Nat→Prop} (h:Two X n B S1 n S N) (hB:∀p,p < n→X p < B) (h1:Laid1 X n m D S1) (hP:Ord2 X n P) (hD:∀k l,k < l→l < m→X (D k)=X (D l)→¬P (D l) (D k)):
    ∀j2 j1 p q,j1 < j2→j2 < n→S j1=((p:Nat):Int)→S j2=((q:Nat):Int)→¬P q p:=by
 intro j2
 induction j2 using Nat.strongRecOn with
 | ind j2 ih=>
   intro j1 p q h12 h2 hp hq
   obtain ⟨p',hpn,e,a1,a2,a3⟩:=h.in_part hB (show j1 < n by omega) (by rw [hp];omega)
   obtain rfl:p'=p:=by rw [hp] at e;omega
   obtain ⟨q',hqn,e,b1,b2,b3⟩:=h.in_part hB h2 (by rw [hq];omega)
   obtain rfl:q'=q:=by rw [hq] at e;omega
   have hle:=part_lt (X:=X) (n:=n) a1 b2 (by omega)
   by_cases hx:X p'=X q'
   · rcases a3 with ⟨a3,_,a4⟩ | ⟨a3,a4⟩
     · rcases b3 with ⟨b3,_,b4⟩ | ⟨b3,b4⟩
       · rcases h.ord j1 j2 p' q' h12 h2 hp hq hx a3 b3 with g | ⟨k1,k2,g1,g2,g3,g4⟩
         · exact hP.last p' q' g hqn hx b3
         · intro hh
           have hpn1:p'+1 < n:=by
            obtain ⟨p'',g5,e,_⟩:=h.in_part hB (show k1 < n by omega) (by rw [g3];omega)
            rw [g3] at e
            omega
           have hqn1:q'+1 < n:=by
            obtain ⟨q'',g5,e,_⟩:=h.in_part hB (show k2 < n by omega) (by rw [g4];omega)
            rw [g4] at e
            omega
           exact ih k2 g2 k1 (p'+1) (q'+1) g1 (by omega) g3 g4 (hP.step p' q' hpn1 hqn1 hx a3 b3 hh)
       · exact hP.kind p' q' hpn hqn hx a3 (dip_is b3).2.1
     · rcases b3 with ⟨b3,_,b4⟩ | ⟨b3,b4⟩
       · rw [hx] at a4
         omega
       · obtain ⟨k,l,g1,g2,rfl,rfl⟩:=h1.ord j1 j2 p' q' h12 h2 ((h.dips j1 p' (by omega) a3).1 hp) ((h.dips j2 q' h2 b3).1 hq) hx
         exact hD k l g1 g2 hx
   · exact hP.far p' q' hpn hqn (by omega)
end
end Go.Proofs.YtcidobpbepeakaaGreat
namespace Go.Proofs.YtcidobpbepeakaaGreat
section
variable {X:Nat→Nat} {n B:Nat} {S2 S N:Nat→Int} {i:Nat}
structure Three (X:Nat→Nat) (n B:Nat) (S2:Nat→Int) (i:Nat) (S N:Nat→Int):Prop where
 next:∀x,x < B→∃k:Nat,N x=(k:Int)∧mid X n x≤k∧k≤hd X n (x+1)
 old:∀x,x < B→∀j,hd X n x≤j→j < hd X n (x+1)→(j:Int) < N x→S j=S2 j
 new:∀x,x < B→∀j,j < hd X n (x+1)→N x≤(j:Int)→∃p,p < n∧S j=((p:Nat):Int)∧up X n p=true∧X p=x
 inj:∀x,x < B→∀j j',j < hd X n (x+1)→j' < hd X n (x+1)→N x≤(j:Int)→N x≤(j':Int)→S j=S j'→j=j'
 src:∀x,x < B→∀j p,j < hd X n (x+1)→N x≤(j:Int)→S j=((p:Nat):Int)→∃j',i≤j'∧j < j'∧j' < n∧S j'=((p+1:Nat):Int)
 done:∀j p,i≤j→j < n→p < n→S j=((p+1:Nat):Int)→up X n p=true→∃j',j' < hd X n (X p+1)∧N (X p)≤(j':Int)∧S j'=((p:Nat):Int)
 scan:∀x,x < B→∀j,i≤j→mid X n x≤j→j < hd X n (x+1)→N x≤(j:Int)
 ord:∀x,x < B→∀j1 j2 p q,j1 < j2→j2 < hd X n (x+1)→N x≤(j1:Int)→S j1=((p:Nat):Int)→S j2=((q:Nat):Int)→∃k1 k2,k1 < k2∧k2 < n∧i≤k1∧j1 < k1∧S k1=((p+1:Nat):Int)∧S k2=((q+1:Nat):Int)
theorem Three.start (hN:∀x,x < B→N x=((hd X n (x+1):Nat):Int)):Three X n B S2 n S2 N:=
 ⟨fun x hx=>⟨_,hN x hx,(hd_mid x).2,Nat.le_refl _⟩,fun _ _ _ _ _ _=>rfl,fun x hx j h1 h2=>by rw [hN x hx] at h2;omega,fun x hx j j' h1 _ h2=>by rw [hN x hx] at h2;omega,
   fun x hx j p h1 h2=>by rw [hN x hx] at h2;omega,fun j p h1 h2=>by omega,fun x hx j h1 h2 h3=>by have:=hd_to (X:=X) (n:=n) (x+1);omega,fun x hx j1 j2 p q h1 h2 h3=>by rw [hN x hx] at h3;omega⟩
theorem Three.fin (h:Three X n B S2 i S N) (h2:Laid2 X n S2) (hB:∀p,p < n→X p < B) {j:Nat} (hj:j < n) (hs:∀x,x < B→mid X n x≤j→j < hd X n (x+1)→N x≤(j:Int)):
    S j= -1∨∃p,p < n∧S j=((p:Nat):Int)∧hd X n (X p)≤j∧j < hd X n (X p+1)∧((up X n p=false∧j < mid X n (X p)∧S2 j=S j)∨(up X n p=true∧mid X n (X p)≤j∧N (X p)≤(j:Int))):=by
 obtain ⟨x,hx,a1,a2⟩:=part_of hB hj
 obtain ⟨k,hk,hk1,hk2⟩:=h.next x hx
 by_cases hm:mid X n x≤j
 · have hn:=hs x hx hm a2
   obtain ⟨p,hp,e,h3,rfl⟩:=h.new x hx j a2 hn
   exact .inr ⟨p,hp,e,a1,a2,.inr ⟨h3,hm,hn⟩⟩
 · have e:=h.old x hx j a1 a2 (by rw [hk];omega)
   rcases h2.rest j hj with g | ⟨p,hp,g1,g2,g3,g4⟩
   · exact .inl (e.trans g)
   · have hpx:X p=x:=part_one g2 g3 a1 a2
     subst hpx
     rcases g4 with g4 | ⟨_,g4⟩
     · exact .inr ⟨p,hp,e.trans g1,g2,g3,.inl ⟨g4.1,g4.2,e.symm⟩⟩
     · omega
theorem Three.fin_inj (h:Three X n B S2 i S N) (h2:Laid2 X n S2) (hB:∀p,p < n→X p < B) {j j' p:Nat} (hj:j < n) (hj':j' < n) (hs:∀x,x < B→mid X n x≤j→j < hd X n (x+1)→N x≤(j:Int)) (hs':∀x,x < B→mid X n x≤j'→j' < hd X n (x+1)→N x≤(j':Int))
    (e:S j=((p:Nat):Int)) (e':S j'=((p:Nat):Int)):j=j':=by
 rcases h.fin h2 hB hj hs with g | ⟨q,hq,g1,g2,g3,g4⟩
 · rw [g] at e;omega
 · obtain rfl:q=p:=by rw [e] at g1;omega
   rcases h.fin h2 hB hj' hs' with g' | ⟨q',hq',g1',g2',g3',g4'⟩
   · rw [g'] at e';omega
   · obtain rfl:q'=q:=by rw [e'] at g1';omega
     rcases g4 with ⟨u,_,g4⟩ | ⟨u,_,g4⟩
     · rcases g4' with ⟨u',_,g4'⟩ | ⟨u',_⟩
       · exact h2.inj j j' hj hj' (by rw [g4,g4',e,e']) (by rw [g4,e];omega)
       · rw [u] at u';cases u'
     · rcases g4' with ⟨u',_⟩ | ⟨u',_,g4'⟩
       · rw [u] at u';cases u'
       · exact h.inj (X q') (hB q' hq) j j' g3 g3' g4 g4' (e.trans e'.symm)
theorem Three.met (h:Three X n B S2 i S N) (hB:∀p,p < n→X p < B) {p:Nat} (hp:p < n) (hu:up X n p=true) (hs:N (X p)≤((mid X n (X p):Nat):Int)):∃j,j < hd X n (X p+1)∧N (X p)≤(j:Int)∧S j=((p:Nat):Int):=by
 obtain ⟨k,hk,hk1,hk2⟩:=h.next (X p) (hB p hp)
 by_cases hex:∃j,j < hd X n (X p+1)∧N (X p)≤(j:Int)∧S j=((p:Nat):Int)
 · exact hex
 · have hlt:=pigeon_more (n:=n) (k:=hd X n (X p+1) - k) (f:=fun q=>decide (X q=X p)&&up X n q) (s:=fun t=>(S (k+t)).toNat) (fun t ht=>by
    obtain ⟨q,hq,e,h2,h3⟩:=h.new (X p) (hB p hp) (k+t) (by omega) (by rw [hk];omega)
    show (S (k+t)).toNat < n∧(decide (X (S (k+t)).toNat=X p)&&up X n (S (k+t)).toNat)=true
    rw [e,Int.toNat_natCast]
    exact ⟨hq,by rw [h2,h3];simp⟩) (fun t t' ht ht' he=>by
    obtain ⟨q,hq,e,_⟩:=h.new (X p) (hB p hp) (k+t) (by omega) (by rw [hk];omega)
    obtain ⟨q',hq',e',_⟩:=h.new (X p) (hB p hp) (k+t') (by omega) (by rw [hk];omega)
    have he:(S (k+t)).toNat=(S (k+t')).toNat:=he
    rw [e,e',Int.toNat_natCast,Int.toNat_natCast] at he
    have:=h.inj (X p) (hB p hp) (k+t) (k+t') (by omega) (by omega) (by rw [hk];omega) (by rw [hk];omega) (by rw [e,e',he])
    omega) hp (by simp [hu]) (fun t ht he=>by
    have he:(S (k+t)).toNat=p:=he
    obtain ⟨q,hq,e,_⟩:=h.new (X p) (hB p hp) (k+t) (by omega) (by rw [hk];omega)
    rw [e,Int.toNat_natCast] at he
    subst he
    exact hex ⟨k+t,by omega,by rw [hk];omega,e⟩)
   have hlt:hd X n (X p+1) - k < nr X n (X p):=hlt
   have:=hd_succ (X:=X) (n:=n) (X p)
   rw [hk] at hs
   omega
theorem Three.come (h:Three X n B S2 (i+1) S N) (h2:Laid2 X n S2) (hB:∀p,p < n→X p < B):∀x,x < B→mid X n x≤i→i < hd X n (x+1)→N x≤(i:Int):=fun x hx hm hi=>by
 obtain ⟨k,hk,hk1,hk2⟩:=h.next x hx
 by_cases hki:k≤i
 · rw [hk];omega
 · have all:∀t p,n - p≤t→p < n→X p=x→up X n p=true→∃j,j < hd X n (x+1)∧N x≤(j:Int)∧S j=((p:Nat):Int):=by
    intro t
    induction t with
    | zero=>intro p ht hp;omega
    | succ t ih=>
      intro p ht hp hpx hu
      have hp1:=up_lt hp hu
      have hup:=up_up hp hu
      have fin:∀j,i+1≤j→j < n→S j=((p+1:Nat):Int)→∃j,j < hd X n (x+1)∧N x≤(j:Int)∧S j=((p:Nat):Int):=fun j hj hjn e=>by
       have:=h.done j p hj hjn hp e hu
       rw [hpx] at this
       exact this
      by_cases hy:X p=X (p+1)
      · obtain ⟨j,g1,g2,g3⟩:=ih (p+1) (by omega) hp1 (by omega) (hup.2 hy)
        rw [hk] at g2
        exact fin j (by omega) (Nat.lt_of_lt_of_le g1 (hd_to _)) g3
      · have hmono:=hd_mono (X:=X) (n:=n) (show x+1≤X (p+1) by omega)
        have hmm:=hd_mid (X:=X) (n:=n) (X (p+1))
        obtain ⟨k',hk',hk1',hk2'⟩:=h.next (X (p+1)) (hB _ hp1)
        cases hu1:up X n (p+1)
        · obtain ⟨j,hj,e⟩:=h2.fall (p+1) hp1 hu1
          rcases h2.rest j hj with g | ⟨q,hq,g1,g2,g3,g4⟩
          · rw [g] at e;omega
          · obtain rfl:q=p+1:=by rw [e] at g1;omega
            rcases g4 with ⟨_,g4⟩ | ⟨g4,_⟩
            · exact fin j (by omega) hj ((h.old (X (p+1)) (hB _ hp1) j g2 g3 (by rw [hk'];omega)).trans e)
            · rw [(dip_is g4).2.1] at hu1
              cases hu1
        · have hs:N (X (p+1))≤((mid X n (X (p+1)):Nat):Int):=by
           by_cases he:mid X n (X (p+1)) < hd X n (X (p+1)+1)
           · exact h.scan (X (p+1)) (hB _ hp1) _ (by omega) (Nat.le_refl _) he
           · rw [hk'];omega
          obtain ⟨j,g1,g2,g3⟩:=h.met hB hp1 hu1 hs
          rw [hk'] at g2
          exact fin j (by omega) (Nat.lt_of_lt_of_le g1 (hd_to _)) g3
   have hc:=covered n (hd X n (x+1) - k) (fun p=>decide (X p=x)&&up X n p) (fun t=>(S (k+t)).toNat) (fun p hp hf=>by
    simp only [Bool.and_eq_true,decide_eq_true_eq] at hf
    obtain ⟨j,g1,g2,g3⟩:=all n p (by omega) hp hf.1 hf.2
    rw [hk] at g2
    refine ⟨j - k,by omega,?_⟩
    show (S (k+(j - k))).toNat=p
    rw [show k+(j - k)=j by omega,g3,Int.toNat_natCast])
   have hc:nr X n x≤hd X n (x+1) - k:=hc
   have:=hd_succ (X:=X) (n:=n) x
   omega
theorem Three.skip (h:Three X n B S2 (i+1) S N) (h2:Laid2 X n S2) (hB:∀p,p < n→X p < B) (hno:∀p,p < n→S i=((p+1:Nat):Int)→up X n p=false):Three X n B S2 i S N:=by
 have hc:=h.come h2 hB
 refine ⟨h.next,h.old,h.new,h.inj,fun x hx j p h1 h2 h3=>?_,fun j p hj hjn hp he hu=>?_,fun x hx j hj h1 h2=>?_,fun x hx j1 j2 p q h1 h2 h3 h4 h5=>?_⟩
 · obtain ⟨j',g1,g2⟩:=h.src x hx j p h1 h2 h3
   exact ⟨j',by omega,g2⟩
 · by_cases hji:j=i
   · subst hji
     rw [hno p hp he] at hu
     cases hu
   · exact h.done j p (by omega) hjn hp he hu
 · by_cases hji:j=i
   · subst hji
     exact hc x hx h1 h2
   · exact h.scan x hx j (by omega) h1 h2
 · obtain ⟨k1,k2,g1,g2,g3,g4⟩:=h.ord x hx j1 j2 p q h1 h2 h3 h4 h5
   exact ⟨k1,k2,g1,g2,by omega,g4⟩
theorem Three.room (h:Three X n B S2 (i+1) S N) (h2:Laid2 X n S2) (hB:∀p,p < n→X p < B) (hi:i < n) {p:Nat} (hp:p < n) (hu:up X n p=true) (hS:S i=((p+1:Nat):Int)):
    ∃k:Nat,N (X p)=((k+1:Nat):Int)∧mid X n (X p)≤k∧k < hd X n (X p+1)∧k < i:=by
 have hc:=h.come h2 hB
 obtain ⟨k,hk,hk1,hk2⟩:=h.next (X p) (hB p hp)
 have hnew:∀j,j < hd X n (X p+1)→N (X p)≤(j:Int)→S j≠((p:Nat):Int):=fun j h1 h3 he=>by
  obtain ⟨j',g1,g2,g3,g4⟩:=h.src (X p) (hB p hp) j p h1 h3 he
  have:=h.fin_inj h2 hB hi g3 hc (fun x hx a b=>h.scan x hx j' g1 a b) hS g4
  omega
 have hlt:=pigeon_more (n:=n) (k:=hd X n (X p+1) - k) (f:=fun q=>decide (X q=X p)&&up X n q) (s:=fun t=>(S (k+t)).toNat) (fun t ht=>by
  obtain ⟨q,hq,e,h2,h3⟩:=h.new (X p) (hB p hp) (k+t) (by omega) (by rw [hk];omega)
  show (S (k+t)).toNat < n∧(decide (X (S (k+t)).toNat=X p)&&up X n (S (k+t)).toNat)=true
  rw [e,Int.toNat_natCast]
  exact ⟨hq,by rw [h2,h3];simp⟩) (fun t t' ht ht' he=>by
  obtain ⟨q,hq,e,_⟩:=h.new (X p) (hB p hp) (k+t) (by omega) (by rw [hk];omega)
  obtain ⟨q',hq',e',_⟩:=h.new (X p) (hB p hp) (k+t') (by omega) (by rw [hk];omega)
  have he:(S (k+t)).toNat=(S (k+t')).toNat:=he
  rw [e,e',Int.toNat_natCast,Int.toNat_natCast] at he
  have:=h.inj (X p) (hB p hp) (k+t) (k+t') (by omega) (by omega) (by rw [hk];omega) (by rw [hk];omega) (by rw [e,e',he])
  omega) hp (by simp [hu]) (fun t ht he=>by
  have he:(S (k+t)).toNat=p:=he
  obtain ⟨q,hq,e,_⟩:=h.new (X p) (hB p hp) (k+t) (by omega) (by rw [hk];omega)
  rw [e,Int.toNat_natCast] at he
  subst he
  exact hnew (k+t) (by omega) (by rw [hk];omega) e)
 have hlt:hd X n (X p+1) - k < nr X n (X p):=hlt
 have hsu:=hd_succ (X:=X) (n:=n) (X p)
 refine ⟨k - 1,by rw [hk];omega,by omega,by omega,?_⟩
 have hup:=up_up hp hu
 rcases h.fin h2 hB hi hc with g | ⟨q,hq,g1,g2,g3,g4⟩
 · rw [g] at hS;omega
 · obtain rfl:q=p+1:=by rw [hS] at g1;omega
   by_cases hx:X p=X (p+1)
   · rcases g4 with ⟨u,_⟩ | ⟨_,_,g4⟩
     · rw [hup.2 hx] at u;cases u
     · rw [←hx,hk] at g4
       omega
   · have:=hd_mono (X:=X) (n:=n) (show X p+1≤X (p+1) by omega)
     omega
theorem Three.put (h:Three X n B S2 (i+1) S N) (h2:Laid2 X n S2) (hB:∀p,p < n→X p < B) (hi:i < n) {p k:Nat} (hp:p < n) (hu:up X n p=true) (hS:S i=((p+1:Nat):Int))
    (hk:N (X p)=((k+1:Nat):Int)) (hk1:mid X n (X p)≤k) (hk2:k < hd X n (X p+1)) (hki:k < i):Three X n B S2 i (putI S k ((p:Nat):Int)) (putI N (X p) (k:Int)):=by
 have hc:=h.come h2 hB
 have hm:=hd_mid (X:=X) (n:=n) (X p)
 have off:∀x,x < B→x≠X p→∀j,hd X n x≤j→j < hd X n (x+1)→j≠k:=fun x hx hne j h1 h3 e=>by
  subst e
  exact hne (part_one h1 h3 (by omega) hk2)
 have offn:∀x,x < B→x≠X p→∀j:Nat,N x≤(j:Int)→j < hd X n (x+1)→j≠k:=fun x hx hne j h1 h3=>by
  obtain ⟨k',hk',a,b⟩:=h.next x hx
  have:=hd_mid (X:=X) (n:=n) x
  rw [hk'] at h1
  exact off x hx hne j (by omega) h3
 have same:∀j:Nat,N (X p)≤(j:Int)→j≠k:=fun j h1 e=>by rw [hk] at h1;omega
 have any:∀x,x < B→∀j:Nat,N x≤(j:Int)→j < hd X n (x+1)→j≠k:=fun x hx j h1 h3=>by
  by_cases hne:x=X p
  · subst hne
    exact same j h1
  · exact offn x hx hne j h1 h3
 have late:∀j,i≤j→putI S k ((p:Nat):Int) j=S j:=fun j hj=>putI_off _ (by omega)
 refine ⟨fun x hx=>?_,fun x hx j h1 h3 h4=>?_,fun x hx j h1 h3=>?_,fun x hx j j' h1 h3 h4 h5 he=>?_,fun x hx j q h1 h3 he=>?_,fun j q hj hjn hq he hqu=>?_,fun x hx j hj h1 h3=>?_,fun x hx j1 j2 q1 q2 h1 h3 h4 h5 h6=>?_⟩
 · by_cases hne:x=X p
   · subst hne
     exact ⟨k,putI_at _ _ _,hk1,by omega⟩
   · rw [putI_off _ hne]
     exact h.next x hx
 · by_cases hne:x=X p
   · subst hne
     rw [putI_at] at h4
     rw [putI_off _ (by omega)]
     exact h.old (X p) hx j h1 h3 (by rw [hk];omega)
   · rw [putI_off _ hne] at h4
     rw [putI_off _ (off x hx hne j h1 h3)]
     exact h.old x hx j h1 h3 h4
 · by_cases hne:x=X p
   · subst hne
     rw [putI_at] at h3
     by_cases hjk:j=k
     · subst hjk
       exact ⟨p,hp,putI_at _ _ _,hu,rfl⟩
     · rw [putI_off _ hjk]
       exact h.new (X p) hx j h1 (by rw [hk];omega)
   · rw [putI_off _ hne] at h3
     rw [putI_off _ (offn x hx hne j h3 h1)]
     exact h.new x hx j h1 h3
 · have hnew:∀j,j < hd X n (X p+1)→N (X p)≤(j:Int)→S j≠((p:Nat):Int):=fun j h1 h3 he=>by
    obtain ⟨j',g1,g2,g3,g4⟩:=h.src (X p) (hB p hp) j p h1 h3 he
    have:=h.fin_inj h2 hB hi g3 hc (fun x hx a b=>h.scan x hx j' g1 a b) hS g4
    omega
   by_cases hne:x=X p
   · subst hne
     rw [putI_at] at h4 h5
     by_cases hjk:j=k
     · by_cases hjk':j'=k
       · omega
       · rw [hjk,putI_at,putI_off _ hjk'] at he
         exact absurd he.symm (hnew j' h3 (by rw [hk];omega))
     · by_cases hjk':j'=k
       · rw [hjk',putI_at,putI_off _ hjk] at he
         exact absurd he (hnew j h1 (by rw [hk];omega))
       · rw [putI_off _ hjk,putI_off _ hjk'] at he
         exact h.inj (X p) hx j j' h1 h3 (by rw [hk];omega) (by rw [hk];omega) he
   · rw [putI_off _ hne] at h4 h5
     rw [putI_off _ (offn x hx hne j h4 h1),putI_off _ (offn x hx hne j' h5 h3)] at he
     exact h.inj x hx j j' h1 h3 h4 h5 he
 · by_cases hne:x=X p
   · subst hne
     rw [putI_at] at h3
     by_cases hjk:j=k
     · subst hjk
       rw [putI_at] at he
       obtain rfl:p=q:=by omega
       exact ⟨i,Nat.le_refl i,hki,hi,(late i (Nat.le_refl i)).trans hS⟩
     · rw [putI_off _ hjk] at he
       obtain ⟨j',g1,g2,g3,g4⟩:=h.src (X p) hx j q h1 (by rw [hk];omega) he
       exact ⟨j',by omega,g2,g3,(late j' (by omega)).trans g4⟩
   · rw [putI_off _ hne] at h3
     rw [putI_off _ (offn x hx hne j h3 h1)] at he
     obtain ⟨j',g1,g2,g3,g4⟩:=h.src x hx j q h1 h3 he
     exact ⟨j',by omega,g2,g3,(late j' (by omega)).trans g4⟩
 · rw [late j hj] at he
   by_cases hji:j=i
   · subst hji
     obtain rfl:p=q:=by rw [hS] at he;omega
     refine ⟨k,hk2,?_,putI_at _ _ _⟩
     rw [putI_at]
     omega
   · obtain ⟨j',g1,g2,g3⟩:=h.done j q (by omega) hjn hq he hqu
     refine ⟨j',g1,?_,?_⟩
     · by_cases hne:X q=X p
       · rw [hne,putI_at]
         rw [hne,hk] at g2
         omega
       · rw [putI_off _ hne]
         exact g2
     · rw [putI_off _ (any (X q) (hB q hq) j' g2 g1)]
       exact g3
 · have:N x≤(j:Int):=by
    by_cases hji:j=i
    · subst hji
      exact hc x hx h1 h3
    · exact h.scan x hx j (by omega) h1 h3
   by_cases hne:x=X p
   · subst hne
     rw [putI_at]
     rw [hk] at this
     omega
   · rw [putI_off _ hne]
     exact this
 · by_cases hne:x=X p
   · subst hne
     rw [putI_at] at h4
     have hj2:j2≠k:=by omega
     rw [putI_off _ hj2] at h6
     by_cases hj1:j1=k
     · subst hj1
       rw [putI_at] at h5
       obtain rfl:p=q1:=by omega
       obtain ⟨j',g1,g2,g3,g4⟩:=h.src (X p) hx j2 q2 h3 (by rw [hk];omega) h6
       exact ⟨i,j',by omega,g3,Nat.le_refl i,hki,(late i (Nat.le_refl i)).trans hS,(late j' (by omega)).trans g4⟩
     · rw [putI_off _ hj1] at h5
       obtain ⟨k1,k2,g1,g2,g3,g4,g5,g6⟩:=h.ord (X p) hx j1 j2 q1 q2 h1 h3 (by rw [hk];omega) h5 h6
       exact ⟨k1,k2,g1,g2,by omega,g4,(late k1 (by omega)).trans g5,(late k2 (by omega)).trans g6⟩
   · rw [putI_off _ hne] at h4
     rw [putI_off _ (offn x hx hne j1 h4 (by omega))] at h5
     rw [putI_off _ (offn x hx hne j2 (by omega) h3)] at h6
     obtain ⟨k1,k2,g1,g2,g3,g4,g5,g6⟩:=h.ord x hx j1 j2 q1 q2 h1 h3 h4 h5 h6
     exact ⟨k1,k2,g1,g2,by omega,g4,(late k1 (by omega)).trans g5,(late k2 (by omega)).trans g6⟩
structure Ord3 (X:Nat→Nat) (n:Nat) (P Q:Nat→Nat→Prop):Prop where
 far:∀p q,p < n→q < n→X p < X q→¬Q q p
 kind:∀p q,p < n→q < n→X p=X q→up X n p=false→up X n q=true→¬Q q p
 fall:∀p q,p < n→q < n→X p=X q→up X n p=false→up X n q=false→Q q p→P q p
 step:∀p q,p+1 < n→q+1 < n→X p=X q→up X n p=true→up X n q=true→Q q p→Q (q+1) (p+1)
def InOrder (n:Nat) (Q:Nat→Nat→Prop) (S:Nat→Int) (s:Nat→Nat):Prop:=
 (∀i,i < n→S i=((s i:Nat):Int))∧(∀i,i < n→s i < n)∧(∀i j,i < n→j < n→s i=s j→i=j)∧∀i j,i < j→j < n→¬Q (s j) (s i)
theorem Three.all (h:Three X n B S2 0 S N) (h2:Laid2 X n S2) (hB:∀p,p < n→X p < B) {P Q:Nat→Nat→Prop} (hO:Ord3 X n P Q)
    (hP:∀j2 j1 p q,j1 < j2→j2 < n→S2 j1=((p:Nat):Int)→S2 j2=((q:Nat):Int)→¬P q p):∃s,InOrder n Q S s:=by
 have hs:∀j x,x < B→mid X n x≤j→j < hd X n (x+1)→N x≤(j:Int):=fun j x hx a b=>h.scan x hx j (Nat.zero_le _) a b
 have met:∀t p,n - p≤t→p < n→∃j,j < n∧S j=((p:Nat):Int):=by
  intro t
  induction t with
  | zero=>intro p ht hp;omega
  | succ t ih=>
    intro p ht hp
    cases hu:up X n p
    · obtain ⟨j,hj,e⟩:=h2.fall p hp hu
      rcases h2.rest j hj with g | ⟨q,hq,g1,g2,g3,g4⟩
      · rw [g] at e;omega
      · obtain rfl:q=p:=by rw [e] at g1;omega
        obtain ⟨k,hk,hk1,_⟩:=h.next (X q) (hB q hq)
        rcases g4 with ⟨_,g4⟩ | ⟨g4,_⟩
        · exact ⟨j,hj,(h.old (X q) (hB q hq) j g2 g3 (by rw [hk];omega)).trans e⟩
        · rw [(dip_is g4).2.1] at hu;cases hu
    · obtain ⟨j,hj,e⟩:=ih (p+1) (by omega) (up_lt hp hu)
      obtain ⟨j',g1,_,g2⟩:=h.done j p (Nat.zero_le _) hj hp e hu
      exact ⟨j',Nat.lt_of_lt_of_le g1 (hd_to _),g2⟩
 have ex:∀j,∃p,j < n→p < n∧S j=((p:Nat):Int):=fun j=>by
  by_cases hj:j < n
  · obtain ⟨p,g⟩:=all_met (fun p hp=>met n p (by omega) hp) j hj
    exact ⟨p,fun _=>g⟩
  · exact ⟨0,fun e=>absurd e hj⟩
 obtain ⟨s,hsx⟩:=Classical.axiomOfChoice ex
 have one:∀i j,i < n→j < n→s i=s j→i=j:=fun i j hi hj he=>h.fin_inj h2 hB hi hj (hs i) (hs j) (hsx i hi).2 (he▸(hsx j hj).2)
 refine ⟨s,fun i hi=>(hsx i hi).2,fun i hi=>(hsx i hi).1,one,?_⟩
 have go:∀t i j,n - i≤t→i < j→j < n→¬Q (s j) (s i):=by
  intro t
  induction t with
  | zero=>intro i j ht hij hj;omega
  | succ t ih=>
    intro i j ht hij hj
    have hin:i < n:=by omega
    obtain ⟨a0,a1⟩:=hsx i hin
    obtain ⟨b0,b1⟩:=hsx j hj
    rcases h.fin h2 hB hin (hs i) with g | ⟨p,hp,g1,g2,g3,g4⟩
    · rw [g] at a1;omega
    · obtain rfl:p=s i:=by rw [a1] at g1;omega
      rcases h.fin h2 hB hj (hs j) with g' | ⟨q,hq,g1',g2',g3',g4'⟩
      · rw [g'] at b1;omega
      · obtain rfl:q=s j:=by rw [b1] at g1';omega
        have hle:=part_lt (X:=X) (n:=n) g2 g3' (by omega)
        by_cases hx:X (s i)=X (s j)
        · rcases g4 with ⟨u,g4,e⟩ | ⟨u,g4,g5⟩
          · rcases g4' with ⟨u',g4',e'⟩ | ⟨u',g4',_⟩
            · exact fun hh=>hP j i (s i) (s j) hij hj (e.trans a1) (e'.trans b1) (hO.fall _ _ hp hq hx u u' hh)
            · exact hO.kind _ _ hp hq hx u u'
          · rcases g4' with ⟨u',g4',e'⟩ | ⟨u',g4',_⟩
            · rw [hx] at g4
              omega
            · rw [←hx] at g3'
              obtain ⟨k1,k2,c1,c2,_,c3,c4,c5⟩:=h.ord (X (s i)) (hB _ hp) i j (s i) (s j) hij g3' g5 a1 b1
              intro hh
              have d1:=(hsx k1 (by omega)).2
              have d2:=(hsx k2 c2).2
              have hst:=hO.step _ _ (up_lt hp u) (up_lt hq u') hx u u' hh
              rw [c4] at d1
              rw [c5] at d2
              have e1:s k1=s i+1:=by omega
              have e2:s k2=s j+1:=by omega
              have:=ih k1 k2 (by omega) c1 c2
              rw [e1,e2] at this
              exact this hst
        · exact hO.far _ _ hp hq (by omega)
 exact fun i j=>go n i j (by omega)
end
end Go.Proofs.YtcidobpbepeakaaGreat
namespace Go.Proofs.YtcidobpbepeakaaGreat
section
variable {X:Nat→Nat} {n:Nat}
theorem xi_eq {X:Nat→Nat} {p q:Nat} (h:X p=X q):xi X p=xi X q:=by show ((X p:Nat):Int)=((X q:Nat):Int);rw [h]
theorem sless_ord2:Ord2 X n (SLess (xi X) n):=by
 refine ⟨fun p q hp hq hx h=>?_,fun p q hp hq hx h1 h2 h=>sless_asymm h (fall_less n p q (by omega) hp hq hx h1 h2),fun p q hp hq hx _ _ h=>(sless_step (by omega) (by omega) (xi_eq hx.symm)).1 h,fun p q hp hq hx _ h=>?_⟩
 · have hne:xi X q≠xi X p:=fun e=>by have e:((X q:Nat):Int)=((X p:Nat):Int):=e;omega
   have:((X q:Nat):Int) < ((X p:Nat):Int):=(sless_now hq hp hne).1 h
   omega
 · have:=((sless_step hq (by omega) (xi_eq hx.symm)).1 h).lt
   omega
theorem sless_ord3:Ord3 X n (SLess (xi X) n) (SLess (xi X) n):=
 ⟨sless_ord2.far,sless_ord2.kind,fun _ _ _ _ _ _ _ h=>h,fun p q hp hq hx _ _ h=>(sless_step (by omega) (by omega) (xi_eq hx.symm)).1 h⟩
def Ahead (X:Nat→Nat) (n z a b:Nat):Prop:=
 ∃k,(∀i,i < k→a+i < n∧b+i < n∧X (a+i)=X (b+i)∧up X n (a+i)=up X n (b+i)∧(z≤i→dip X n (a+i)=false))∧b+k < n∧(a+k=n∨(a+k < n∧(X (a+k) < X (b+k)∨(X (a+k)=X (b+k)∧up X n (a+k)=false∧up X n (b+k)=true))))
theorem ahead_far {z p q:Nat} (hq:q < n) (hx:X p < X q):¬Ahead X n z q p:=by
 rintro ⟨k,h1,h2,h3⟩
 cases k with
 | zero=>
   rcases h3 with h3 | ⟨_,h3 | ⟨h3,_⟩⟩
   · omega
   · have h3:X q < X p:=h3
     omega
   · have h3:X q=X p:=h3
     omega
 | succ k=>
   have h4:X q=X p:=(h1 0 (by omega)).2.2.1
   omega
theorem ahead_kind {z p q:Nat} (hq:q < n) (hx:X p=X q) (h2:up X n q=true) (h1:up X n p=false∨z=0∧dip X n q=true):¬Ahead X n z q p:=by
 rintro ⟨k,g1,g2,g3⟩
 cases k with
 | zero=>
   rcases g3 with g3 | ⟨_,g3 | ⟨_,g3,_⟩⟩
   · omega
   · have g3:X q < X p:=g3
     omega
   · have g3:up X n q=false:=g3
     rw [h2] at g3
     cases g3
 | succ k=>
   obtain ⟨_,_,_,g4,g5⟩:=g1 0 (by omega)
   have g4:up X n q=up X n p:=g4
   rcases h1 with h1 | ⟨h1,h3⟩
   · rw [h1,h2] at g4
     cases g4
   · have g5:dip X n q=false:=g5 (by omega)
     rw [h3] at g5
     cases g5
theorem ahead_step {z p q:Nat} (hq:q < n) (hx:X p=X q) (he:up X n p=up X n q) (h:Ahead X n z q p):Ahead X n z (q+1) (p+1):=by
 obtain ⟨k,g1,g2,g3⟩:=h
 cases k with
 | zero=>
   rcases g3 with g3 | ⟨_,g3 | ⟨_,g3,g4⟩⟩
   · omega
   · have g3:X q < X p:=g3
     omega
   · have g3:up X n q=false:=g3
     have g4:up X n p=true:=g4
     rw [he,g3] at g4
     cases g4
 | succ k=>
   refine ⟨k,fun i hi=>?_,?_,?_⟩
   · have:=g1 (i+1) (by omega)
     rw [show q+1+i=q+(i+1) by omega,show p+1+i=p+(i+1) by omega]
     exact ⟨this.1,this.2.1,this.2.2.1,this.2.2.2.1,fun h=>this.2.2.2.2 (by omega)⟩
   · rw [show p+1+k=p+(k+1) by omega]
     exact g2
   · rw [show q+1+k=q+(k+1) by omega,show p+1+k=p+(k+1) by omega]
     exact g3
theorem ahead_ord2:Ord2 X n (Ahead X n 0):=by
 refine ⟨fun p q _ hq hx=>ahead_far hq hx,fun p q _ hq hx h1 h2=>ahead_kind hq hx h2 (.inl h1),fun p q _ hq hx h1 h2 h=>ahead_step (by omega) hx (h1.trans h2.symm) h,fun p q hp hq hx h1 h=>?_⟩
 have hup:up X n p=false:=by
  cases hu:up X n p
  · rfl
  · have:=up_lt (show p < n by omega) hu
    omega
 obtain ⟨k,_,g2,_⟩:=ahead_step (z:=0) hq hx (hup.trans h1.symm) h
 omega
theorem ahead_ord3:Ord3 X n (Ahead X n 0) (Ahead X n 1):=by
 refine ⟨fun p q _ hq hx=>ahead_far hq hx,fun p q _ hq hx h1 h2=>ahead_kind hq hx h2 (.inl h1),fun p q _ hq hx h1 h2 h=>?_,fun p q _ hq hx h1 h2 h=>ahead_step (by omega) hx (h1.trans h2.symm) h⟩
 obtain ⟨k,g1,g2⟩:=h
 refine ⟨k,fun i hi=>?_,g2⟩
 obtain ⟨a1,a2,a3,a4,a5⟩:=g1 i hi
 refine ⟨a1,a2,a3,a4,fun _=>?_⟩
 cases i with
 | zero=>
   cases hd:dip X n (q+0)
   · rfl
   · have h5:up X n q=true:=(dip_is hd).2.1
     rw [h2] at h5
     cases h5
 | succ i=>exact a5 (by omega)
theorem ahead_dips {m:Nat} {D:Nat→Nat} (hD:Dips X n m D):∀k l,k < l→l < m→X (D k)=X (D l)→¬Ahead X n 0 (D l) (D k):=fun _ l _ hl hx=>
 ahead_kind (hD.is l hl).1 hx (dip_is (hD.is l hl).2).2.1 (.inr ⟨rfl,(hD.is l hl).2⟩)
theorem sless_steps {a b:Nat}:∀k,(∀i,i < k→a+i < n∧b+i < n∧X (a+i)=X (b+i))→(SLess (xi X) n a b↔SLess (xi X) n (a+k) (b+k))
 | 0,_=>Iff.rfl
 | k+1,h=>by
   have h1:=h k (by omega)
   rw [sless_steps k (fun i hi=>h i (by omega)),sless_step h1.1 h1.2.1 (xi_eq h1.2.2)]
   exact Iff.rfl
theorem Ahead.sless {z a b:Nat} (h:Ahead X n z a b):SLess (xi X) n a b:=by
 obtain ⟨k,h1,h2,h3⟩:=h
 rw [sless_steps k (fun i hi=>⟨(h1 i hi).1,(h1 i hi).2.1,(h1 i hi).2.2.1⟩)]
 rcases h3 with h3 | ⟨h3,h4 | ⟨h4,h5,h6⟩⟩
 · rw [sless_end (by omega) (by omega)]
   exact ⟨h3,h2⟩
 · rw [sless_now h3 h2 (fun e=>by have e:((X (a+k):Nat):Int)=((X (b+k):Nat):Int):=e;omega)]
   show ((X (a+k):Nat):Int) < ((X (b+k):Nat):Int)
   omega
 · exact fall_less n _ _ (by omega) h3 h2 h4 h5 h6
theorem Ahead.trans {z a b c:Nat} (h:Ahead X n z a b) (h':Ahead X n z b c):Ahead X n z a c:=by
 obtain ⟨k,h1,h2,h3⟩:=h
 obtain ⟨l,g1,g2,g3⟩:=h'
 rcases Nat.lt_trichotomy k l with hkl | hkl | hkl
 · obtain ⟨_,b2,b3,b4,_⟩:=g1 k hkl
   refine ⟨k,fun i hi=>?_,b2,?_⟩
   · obtain ⟨a1,a2,a3,a4,a5⟩:=h1 i hi
     obtain ⟨_,c2,c3,c4,_⟩:=g1 i (by omega)
     exact ⟨a1,c2,a3.trans c3,a4.trans c4,a5⟩
   · rw [←b3,←b4]
     exact h3
 · subst hkl
   refine ⟨k,fun i hi=>?_,g2,?_⟩
   · obtain ⟨a1,a2,a3,a4,a5⟩:=h1 i hi
     obtain ⟨_,c2,c3,c4,_⟩:=g1 i hi
     exact ⟨a1,c2,a3.trans c3,a4.trans c4,a5⟩
   · rcases g3 with g3 | ⟨_,g3⟩
     · omega
     · rcases h3 with h3 | ⟨h3,h4⟩
       · exact .inl h3
       · refine .inr ⟨h3,?_⟩
         rcases h4 with h4 | ⟨h4,h5,h6⟩
         · rcases g3 with g3 | ⟨g3,_⟩ <;> exact .inl (by omega)
         · rcases g3 with g3 | ⟨g3,g4,_⟩
           · exact .inl (by omega)
           · rw [h6] at g4;cases g4
 · obtain ⟨b1,_,b3,b4,_⟩:=h1 l hkl
   refine ⟨l,fun i hi=>?_,g2,?_⟩
   · obtain ⟨a1,a2,a3,a4,a5⟩:=h1 i (by omega)
     obtain ⟨_,c2,c3,c4,_⟩:=g1 i hi
     exact ⟨a1,c2,a3.trans c3,a4.trans c4,a5⟩
   · rw [b3,b4]
     refine .inr ⟨b1,?_⟩
     rcases g3 with g3 | ⟨_,g3⟩
     · have:=(h1 l hkl).2.1
       omega
     · exact g3
structure DipsUp (X:Nat→Nat) (n m:Nat) (d:Nat→Nat):Prop extends Dips X n m d where
 mono:∀k l,k < l→l < m→d k < d l
def Alike (X:Nat→Nat) (m:Nat) (d:Nat→Nat) (k l:Nat):Prop:=k+1 < m∧l+1 < m∧d (k+1) - d k=d (l+1) - d l∧∀i,i < d (k+1) - d k+1→X (d k+i)=X (d l+i)
instance (X:Nat→Nat) (m:Nat) (d:Nat→Nat) (k l:Nat):Decidable (Alike X m d k l):=by unfold Alike;infer_instance
variable {m:Nat} {d:Nat→Nat}
theorem Alike.symm {k l:Nat} (h:Alike X m d k l):Alike X m d l k:=⟨h.2.1,h.1,h.2.2.1.symm,fun i hi=>(h.2.2.2 i (by have:=h.2.2.1;omega)).symm⟩
theorem Alike.trans {k l j:Nat} (h:Alike X m d k l) (h':Alike X m d l j):Alike X m d k j:=⟨h.1,h'.2.1,h.2.2.1.trans h'.2.2.1,fun i hi=>(h.2.2.2 i hi).trans (h'.2.2.2 i (by have:=h.2.2.1;omega))⟩
theorem Alike.kinds (hd:DipsUp X n m d) {k l:Nat} (h:Alike X m d k l):∀i,i < d (k+1) - d k+1→up X n (d k+i)=up X n (d l+i):=by
 obtain ⟨hk,hl,he,hx⟩:=h
 have hk1:=hd.mono k (k+1) (by omega) hk
 have hl1:=hd.mono l (l+1) (by omega) hl
 have hkn:=(hd.is _ hk).1
 have hln:=(hd.is _ hl).1
 have go:∀t i,d (k+1) - d k - i≤t→i < d (k+1) - d k+1→up X n (d k+i)=up X n (d l+i):=by
  intro t
  induction t with
  | zero=>
    intro i ht hi
    rw [show d k+i=d (k+1) by omega,show d l+i=d (l+1) by omega,(dip_is (hd.is _ hk).2).2.1,(dip_is (hd.is _ hl).2).2.1]
  | succ t ih=>
    intro i ht hi
    by_cases hii:i=d (k+1) - d k
    · rw [show d k+i=d (k+1) by omega,show d l+i=d (l+1) by omega,(dip_is (hd.is _ hk).2).2.1,(dip_is (hd.is _ hl).2).2.1]
    · have h1:=ih (i+1) (by omega) (by omega)
      rw [up_at (p:=d k+i) (by omega),up_at (p:=d l+i) (by omega),show d k+i+1=d k+(i+1) by omega,show d l+i+1=d l+(i+1) by omega,h1,hx i hi,hx (i+1) (by omega)]
 exact fun i hi=>go _ i (Nat.le_refl _) hi
theorem dip_same {a b i:Nat} (h0:up X n (a+i)=up X n (b+i)) (h1:up X n (a+(i+1))=up X n (b+(i+1))):dip X n (a+(i+1))=dip X n (b+(i+1)):=by
 unfold dip
 rw [h1,show a+(i+1) - 1=a+i by omega,show b+(i+1) - 1=b+i by omega,h0,show decide (0 < a+(i+1))=true from decide_eq_true (by omega),show decide (0 < b+(i+1))=true from decide_eq_true (by omega)]
theorem ahead_short (hd:DipsUp X n m d) {k t:Nat} (hk:k+1 < m) (h:∀i,i < t→1≤i→dip X n (d k+i)=false):t≤d (k+1) - d k:=by
 have hk1:=hd.mono k (k+1) (by omega) hk
 rcases Nat.lt_or_ge (d (k+1) - d k) t with g | g
 · have:=h (d (k+1) - d k) g (by omega)
   rw [show d k+(d (k+1) - d k)=d (k+1) by omega,(hd.is _ hk).2] at this
   cases this
 · exact g
theorem Alike.dips (hd:DipsUp X n m d) {k l:Nat} (h:Alike X m d k l) {i:Nat} (h1:1≤i) (hi:i < d (k+1) - d k+1):dip X n (d k+i)=dip X n (d l+i):=by
 obtain ⟨j,rfl⟩:∃j,i=j+1:=⟨i - 1,by omega⟩
 exact dip_same (h.kinds hd j (by omega)) (h.kinds hd (j+1) hi)
theorem Alike.ahead_left (hd:DipsUp X n m d) {k l c:Nat} (h:Alike X m d k l) (h':Ahead X n 1 (d l) c):Ahead X n 1 (d k) c:=by
 obtain ⟨t,h1,h2,h3⟩:=h'
 have ht:=ahead_short hd h.2.1 (t:=t) (fun i hi h0=>(h1 i hi).2.2.2.2 h0)
 have hkn:=(hd.is _ h.1).1
 have hln:=(hd.is _ h.2.1).1
 have he:=h.2.2.1
 have hk1:=hd.mono k (k+1) (by omega) h.1
 have hl1:=hd.mono l (l+1) (by omega) h.2.1
 refine ⟨t,fun i hi=>?_,h2,?_⟩
 · obtain ⟨a1,a2,a3,a4,a5⟩:=h1 i hi
   exact ⟨by omega,a2,(h.2.2.2 i (by omega)).trans a3,(h.kinds hd i (by omega)).trans a4,fun h0=>(h.dips hd h0 (by omega)).trans (a5 h0)⟩
 · rw [h.2.2.2 t (by omega),h.kinds hd t (by omega)]
   refine .inr ⟨by omega,?_⟩
   rcases h3 with h3 | ⟨_,h3⟩
   · omega
   · exact h3
theorem Alike.ahead_right (hd:DipsUp X n m d) {k l c:Nat} (h:Alike X m d k l) (h':Ahead X n 1 c (d k)):Ahead X n 1 c (d l):=by
 obtain ⟨t,h1,h2,h3⟩:=h'
 have ht:=ahead_short hd h.1 (t:=t) (fun i hi h0=>by
  obtain ⟨j,rfl⟩:∃j,i=j+1:=⟨i - 1,by omega⟩
  obtain ⟨_,_,_,a4,a5⟩:=h1 (j+1) hi
  rw [←dip_same (h1 j (by omega)).2.2.2.1 a4]
  exact a5 h0)
 have hkn:=(hd.is _ h.1).1
 have hln:=(hd.is _ h.2.1).1
 have he:=h.2.2.1
 have hk1:=hd.mono k (k+1) (by omega) h.1
 have hl1:=hd.mono l (l+1) (by omega) h.2.1
 refine ⟨t,fun i hi=>?_,by omega,?_⟩
 · obtain ⟨a1,a2,a3,a4,a5⟩:=h1 i hi
   exact ⟨a1,by omega,a3.trans (h.2.2.2 i (by omega)),a4.trans (h.kinds hd i (by omega)),a5⟩
 · rw [←h.2.2.2 t (by omega),←h.kinds hd t (by omega)]
   exact h3
theorem unlike_one (hd:DipsUp X n m d) {k l:Nat} (hk:k < m) (hl:l < m) (hkl:k≠l) (hu:¬Alike X m d k l):Ahead X n 1 (d k) (d l)∨Ahead X n 1 (d l) (d k):=by
 by_cases h1:Ahead X n 1 (d k) (d l)
 · exact .inl h1
 · by_cases h2:Ahead X n 1 (d l) (d k)
   · exact .inr h2
   · exfalso
     have hkn:=(hd.is _ hk).1
     have hln:=(hd.is _ hl).1
     have hne:d k≠d l:=fun e=>hkl (hd.inj k l hk hl e)
     have E:∀t,∀i,i < t→d k+i < n∧d l+i < n∧X (d k+i)=X (d l+i)∧up X n (d k+i)=up X n (d l+i)∧(1≤i→dip X n (d k+i)=false):=by
      intro t
      induction t with
      | zero=>intro i hi;omega
      | succ t ih=>
        have back:∀i,i < t→d l+i < n∧d k+i < n∧X (d l+i)=X (d k+i)∧up X n (d l+i)=up X n (d k+i)∧(1≤i→dip X n (d l+i)=false):=fun i hi=>by
         obtain ⟨a1,a2,a3,a4,a5⟩:=ih i hi
         refine ⟨a2,a1,a3.symm,a4.symm,fun h0=>?_⟩
         obtain ⟨j,rfl⟩:∃j,i=j+1:=⟨i - 1,by omega⟩
         rw [←dip_same (ih j (by omega)).2.2.2.1 a4]
         exact a5 h0
        have b1:d k+t≤n∧d l+t≤n:=by
         cases t with
         | zero=>exact ⟨by omega,by omega⟩
         | succ t=>
           have:=ih t (by omega)
           exact ⟨by omega,by omega⟩
        have c1:d k+t≠n:=fun e=>h1 ⟨t,ih,by omega,.inl e⟩
        have c2:d l+t≠n:=fun e=>h2 ⟨t,back,by omega,.inl e⟩
        have c3:X (d k+t)=X (d l+t):=by
         rcases Nat.lt_trichotomy (X (d k+t)) (X (d l+t)) with g | g | g
         · exact absurd ⟨t,ih,by omega,.inr ⟨by omega,.inl g⟩⟩ h1
         · exact g
         · exact absurd ⟨t,back,by omega,.inr ⟨by omega,.inl g⟩⟩ h2
        have c4:up X n (d k+t)=up X n (d l+t):=by
         cases u1:up X n (d k+t) <;> cases u2:up X n (d l+t)
         · rfl
         · exact absurd ⟨t,ih,by omega,.inr ⟨by omega,.inr ⟨c3,u1,u2⟩⟩⟩ h1
         · exact absurd ⟨t,back,by omega,.inr ⟨by omega,.inr ⟨c3.symm,u2,u1⟩⟩⟩ h2
         · rfl
        have c5:1≤t→dip X n (d k+t)=false:=fun h0=>by
         cases hdip:dip X n (d k+t)
         · rfl
         · exfalso
           have hdip':dip X n (d l+t)=true:=by
            obtain ⟨j,rfl⟩:∃j,t=j+1:=⟨t - 1,by omega⟩
            rw [←dip_same (ih j (by omega)).2.2.2.1 c4]
            exact hdip
           have nxt:∀a,a < m→dip X n (d a+t)=true→d a+t < n→(∀i,i < t→1≤i→dip X n (d a+i)=false)→a+1 < m∧d (a+1)=d a+t:=fun a ha hda hdn hbet=>by
            obtain ⟨j,hj,e⟩:=hd.all _ hdn hda
            have haj:a < j:=by
             rcases Nat.lt_or_ge a j with g | g
             · exact g
             · rcases Nat.lt_or_ge j a with g' | g'
               · have:=hd.mono j a g' ha
                 omega
               · have:j=a:=by omega
                 rw [this] at e
                 omega
            rcases Nat.lt_or_ge (a+1) j with g | g
            · have g1:=hd.mono (a+1) j g hj
              have g2:=hd.mono a (a+1) (by omega) (by omega)
              have:=hbet (d (a+1) - d a) (by omega) (by omega)
              rw [show d a+(d (a+1) - d a)=d (a+1) by omega,(hd.is (a+1) (by omega)).2] at this
              cases this
            · have:j=a+1:=by omega
              subst this
              exact ⟨hj,e⟩
           obtain ⟨e1,e2⟩:=nxt k hk hdip (by omega) (fun i hi h0=>(ih i hi).2.2.2.2 h0)
           obtain ⟨f1,f2⟩:=nxt l hl hdip' (by omega) (fun i hi h0=>(back i hi).2.2.2.2 h0)
           refine hu ⟨e1,f1,by omega,fun i hi=>?_⟩
           by_cases hit:i=t
           · rw [hit];exact c3
           · exact (ih i (by omega)).2.2.1
        intro i hi
        by_cases hit:i=t
        · subst hit
          exact ⟨by omega,by omega,c3,c4,c5⟩
        · exact ih i (by omega)
     have:=(E (n+1) n (by omega)).1
     omega
def unl (X:Nat→Nat) (m:Nat) (d σ:Nat→Nat):Nat→Nat
 | 0=>0
 | i+1=>unl X m d σ i+(if i=0∨¬Alike X m d (σ (i - 1)) (σ i) then 1 else 0)
structure DipOrd (X:Nat→Nat) (n m:Nat) (d σ:Nat→Nat):Prop where
 dips:DipsUp X n m d
 lt:∀i,i < m→σ i < m
 inj:∀i j,i < m→j < m→σ i=σ j→i=j
 ord:∀i j,i < j→j < m→¬Ahead X n 1 (d (σ j)) (d (σ i))
variable {σ:Nat→Nat}
theorem unl_pos {i:Nat} (h:0 < i):1≤unl X m d σ i:=by
 induction i with
 | zero=>omega
 | succ i ih=>
   unfold unl
   by_cases h0:i=0
   · rw [if_pos (.inl h0)];omega
   · have:=ih (by omega)
     omega
theorem unl_mono {i j:Nat} (h:i≤j):unl X m d σ i≤unl X m d σ j:=by
 obtain ⟨t,rfl⟩:=Nat.le.dest h
 clear h
 induction t with
 | zero=>exact Nat.le_refl _
 | succ t ih=>
   have:unl X m d σ (i+(t+1))=unl X m d σ (i+t)+(if i+t=0∨¬Alike X m d (σ (i+t - 1)) (σ (i+t)) then 1 else 0):=rfl
   omega
theorem unl_to:∀i,unl X m d σ i≤i
 | 0=>Nat.le_refl _
 | i+1=>by
   have:=unl_to i
   unfold unl
   split <;> omega
theorem DipOrd.names (h:DipOrd X n m d σ):∀j i,i < j→j < m→(unl X m d σ (i+1)=unl X m d σ (j+1)∧Alike X m d (σ i) (σ j))∨(unl X m d σ (i+1) < unl X m d σ (j+1)∧Ahead X n 1 (d (σ i)) (d (σ j))):=by
 intro j
 induction j with
 | zero=>intro i hi;omega
 | succ j ih=>
   intro i hij hj
   have e:unl X m d σ (j+1+1)=unl X m d σ (j+1)+(if j+1=0∨¬Alike X m d (σ (j+1 - 1)) (σ (j+1)) then 1 else 0):=rfl
   rw [Nat.add_sub_cancel] at e
   by_cases ha:Alike X m d (σ j) (σ (j+1))
   · rw [if_neg (by rintro (g | g);exact absurd g (by omega);exact g ha)] at e
     rcases Nat.lt_or_ge i j with g | g
     · rcases ih i g (by omega) with ⟨g1,g2⟩ | ⟨g1,g2⟩
       · exact .inl ⟨by omega,g2.trans ha⟩
       · exact .inr ⟨by omega,ha.ahead_right h.dips g2⟩
     · obtain rfl:i=j:=by omega
       exact .inl ⟨by omega,ha⟩
   · rw [if_pos (.inr ha)] at e
     have hA:Ahead X n 1 (d (σ j)) (d (σ (j+1))):=by
      rcases unlike_one h.dips (h.lt j (by omega)) (h.lt (j+1) hj) (fun e=>by have:=h.inj _ _ (by omega) hj e;omega) ha with g | g
      · exact g
      · exact absurd g (h.ord j (j+1) (by omega) hj)
     rcases Nat.lt_or_ge i j with g | g
     · rcases ih i g (by omega) with ⟨g1,g2⟩ | ⟨g1,g2⟩
       · exact .inr ⟨by omega,g2.ahead_left h.dips hA⟩
       · exact .inr ⟨by omega,g2.trans hA⟩
     · obtain rfl:i=j:=by omega
       exact .inr ⟨by omega,hA⟩
theorem DipOrd.onto (h:DipOrd X n m d σ) {k:Nat} (hk:k < m):∃j,j < m∧σ j=k:=inj_onto m σ h.lt (fun _ _ hi hj e=>h.inj _ _ hi hj e) k hk
def Names (X:Nat→Nat) (m:Nat) (d σ Y:Nat→Nat):Prop:=∀j,j < m→Y (σ j)=unl X m d σ (j+1) - 1
theorem DipOrd.below (h:DipOrd X n m d σ) {Y:Nat→Nat} (hY:Names X m d σ Y):∀k,k < m→Y k < unl X m d σ m:=fun k hk=>by
 obtain ⟨j,hj,rfl⟩:=h.onto hk
 rw [hY j hj]
 have h1:=unl_pos (X:=X) (m:=m) (d:=d) (σ:=σ) (show 0 < j+1 by omega)
 have h2:=unl_mono (X:=X) (m:=m) (d:=d) (σ:=σ) (show j+1≤m by omega)
 omega
theorem DipOrd.order (h:DipOrd X n m d σ) {Y:Nat→Nat} (hY:Names X m d σ Y):∀k l,k < m→l < m→SLess (xi Y) m k l→SLess (xi X) n (d k) (d l):=by
 have less:∀k l,k < m→l < m→Y k < Y l→SLess (xi X) n (d k) (d l):=fun k l hk hl hlt=>by
  obtain ⟨i,hi,rfl⟩:=h.onto hk
  obtain ⟨j,hj,rfl⟩:=h.onto hl
  rw [hY i hi,hY j hj] at hlt
  rcases Nat.lt_trichotomy i j with g | g | g
  · rcases h.names j i g hj with ⟨g1,_⟩ | ⟨_,g2⟩
    · omega
    · exact g2.sless
  · subst g;omega
  · have:=unl_mono (X:=X) (m:=m) (d:=d) (σ:=σ) (show j+1≤i+1 by omega)
    omega
 have same:∀k l,k < m→l < m→k≠l→Y k=Y l→Alike X m d k l:=fun k l hk hl hne he=>by
  obtain ⟨i,hi,rfl⟩:=h.onto hk
  obtain ⟨j,hj,rfl⟩:=h.onto hl
  rw [hY i hi,hY j hj] at he
  have p1:=unl_pos (X:=X) (m:=m) (d:=d) (σ:=σ) (show 0 < i+1 by omega)
  have p2:=unl_pos (X:=X) (m:=m) (d:=d) (σ:=σ) (show 0 < j+1 by omega)
  rcases Nat.lt_trichotomy i j with g | g | g
  · rcases h.names j i g hj with ⟨_,g2⟩ | ⟨g1,_⟩
    · exact g2
    · omega
  · subst g;exact absurd rfl hne
  · rcases h.names i j g hi with ⟨_,g2⟩ | ⟨g1,_⟩
    · exact g2.symm
    · omega
 have go:∀t k l,k < m→l < m→(∀i,i < t→Y (k+i)=Y (l+i))→l+t < m→(k+t=m∨Y (k+t) < Y (l+t))→k≠l→SLess (xi X) n (d k) (d l):=by
  intro t
  induction t with
  | zero=>
    intro k l hk hl _ _ h4 _
    rcases h4 with h4 | h4
    · omega
    · exact less k l hk hl h4
  | succ t ih=>
    intro k l hk hl h1 h2 h4 hne
    have ha:=same k l hk hl hne (h1 0 (by omega))
    have h5:=ih (k+1) (l+1) ha.1 ha.2.1 (fun i hi=>by rw [show k+1+i=k+(i+1) by omega,show l+1+i=l+(i+1) by omega];exact h1 (i+1) (by omega)) (by omega) (by rw [show k+1+t=k+(t+1) by omega,show l+1+t=l+(t+1) by omega];exact h4) (by omega)
    have hk1:=h.dips.mono k (k+1) (by omega) ha.1
    have hl1:=h.dips.mono l (l+1) (by omega) ha.2.1
    have hkn:=(h.dips.is _ ha.1).1
    have hln:=(h.dips.is _ ha.2.1).1
    have he:=ha.2.2.1
    rw [sless_steps (d (k+1) - d k) (fun i hi=>⟨by omega,by omega,ha.2.2.2 i (by omega)⟩),show d k+(d (k+1) - d k)=d (k+1) by omega,show d l+(d (k+1) - d k)=d (l+1) by omega]
    exact h5
 intro k l hk hl hs
 have hne:k≠l:=fun e=>by rw [e] at hs;exact sless_irrefl hs
 obtain ⟨t,h1,h2,h3,h4⟩:=hs
 refine go t k l hk hl (fun i hi=>?_) h2 ?_ hne
 · have:((Y (k+i):Nat):Int)=((Y (l+i):Nat):Int):=h1 i hi
   omega
 · rcases h4 with h4 | h4
   · exact .inl h4
   · have h4:((Y (k+t):Nat):Int) < ((Y (l+t):Nat):Int):=h4
     exact .inr (by omega)
theorem DipOrd.unlike (h:DipOrd X n m d σ) (hm:m≤unl X m d σ m):∀i j,i < j→j < m→SLess (xi X) n (d (σ i)) (d (σ j)):=fun i j hij hj=>by
 rcases h.names j i hij hj with ⟨g1,_⟩ | ⟨_,g2⟩
 · exfalso
   have all:∀t,j+1+t≤m→unl X m d σ (j+1+t)≤unl X m d σ (j+1)+t:=by
    intro t
    induction t with
    | zero=>intro _;exact Nat.le_refl _
    | succ t ih=>
      intro ht
      have:=ih (by omega)
      have e:unl X m d σ (j+1+(t+1))=unl X m d σ (j+1+t)+(if j+1+t=0∨¬Alike X m d (σ (j+1+t - 1)) (σ (j+1+t)) then 1 else 0):=rfl
      rw [e]
      split <;> omega
   have h1:=all (m - (j+1)) (by omega)
   rw [show j+1+(m - (j+1))=m by omega] at h1
   have h2:=unl_to (X:=X) (m:=m) (d:=d) (σ:=σ) (i+1)
   omega
 · exact g2.sless
end
end Go.Proofs.YtcidobpbepeakaaGreat
namespace Go.Proofs.YtcidobpbepeakaaGreat
section
variable {X:Nat→Nat} {n B:Nat} {S1 S2 S N:Nat→Int} {i m:Nat} {D:Nat→Nat}
def HasLast (n:Nat) (S:Nat→Int):Prop:=∃j,j < n∧S j=((n - 1:Nat):Int)
theorem HasLast.put (h:HasLast n S) {k:Nat} (hk:S k= -1) (x:Int):HasLast n (putI S k x):=by
 obtain ⟨j,hj,e⟩:=h
 exact ⟨j,hj,(putI_off _ (fun e'=>by rw [e',hk] at e;omega)).trans e⟩
theorem two_first (hn:0 < n) (hD:Dips X n m D) (h:Laid1 X n m D S) (hN:∀x,x < B→N x=((hd X n x:Nat):Int)) (hB:∀p,p < n→X p < B):
    ∃k:Nat,N (X (n - 1))=(k:Int)∧k < n∧Two X n B S 0 (putI S k ((n - 1:Nat):Int)) (putI N (X (n - 1)) ((k+1:Nat):Int))∧HasLast n (putI S k ((n - 1:Nat):Int)):=by
 have h2:=Two.start hD h hN
 have hp:n - 1 < n:=by omega
 have kinds:∀j q,j < n→q < n→S j=((q:Nat):Int)→up X n q=true:=fun j q hj _ e=>by
  rcases h.rest j hj with g | ⟨p,_,g1,g2,_⟩
  · rw [g] at e;omega
  · obtain rfl:p=q:=by rw [g1] at e;omega
    exact (dip_is g2).2.1
 have hnew:∀j,j < n→S j≠((n - 1:Nat):Int):=fun j hj e=>by
  have:=kinds j (n - 1) hj hp e
  rw [up_last] at this
  cases this
 obtain ⟨k,hk,hk1,hk2,hkn,hS⟩:=h2.room hB hp up_last hnew
 exact ⟨k,hk,hkn,h2.put hB hp up_last hk hk1 hk2 hkn hS hnew (.inl ⟨by omega,rfl,rfl,kinds⟩),k,hkn,putI_at _ _ _⟩
theorem Two.round (h:Two X n B S1 i S N) (hB:∀p,p < n→X p < B) (hi:i < n) (hl:HasLast n S):
    ((S i= -1∨S i=0)∧Two X n B S1 (i+1) S N∧HasLast n S)∨(∃q,q+1 < n∧S i=((q+1:Nat):Int)∧up X n q=true∧Two X n B S1 (i+1) S N∧HasLast n S)∨
      ∃q k:Nat,q+1 < n∧S i=((q+1:Nat):Int)∧up X n q=false∧N (X q)=(k:Int)∧k < n∧Two X n B S1 (i+1) (putI S k (q:Int)) (putI N (X q) ((k+1:Nat):Int))∧HasLast n (putI S k (q:Int)):=by
 by_cases h1:S i= -1
 · exact .inl ⟨.inl h1,h.skip (fun p hp e=>by rw [h1] at e;omega),hl⟩
 · obtain ⟨p,hp,e,_⟩:=h.in_part hB hi h1
   rcases p with _ | q
   · exact .inl ⟨.inr e,h.skip (fun p hp e'=>by rw [e] at e';omega),hl⟩
   · cases hu:up X n q
     · have hnew:=h.new hp hu hi e
       obtain ⟨k,hk,hk1,hk2,hkn,hS⟩:=h.room hB (show q < n by omega) hu hnew
       have ha:=h.ahead hB hp hu hi e hk hk1
       exact .inr (.inr ⟨q,k,hp,e,hu,hk,hkn,h.put hB (by omega) hu hk hk1 hk2 hkn hS hnew (.inr ⟨ha,rfl,e⟩),hl.put hS _⟩)
     · refine .inr (.inl ⟨q,hp,e,hu,h.skip (fun p hp' e'=>?_),hl⟩)
       obtain rfl:q=p:=by rw [e] at e';omega
       exact hu
theorem Three.round (h:Three X n B S2 (i+1) S N) (h2:Laid2 X n S2) (hB:∀p,p < n→X p < B) (hi:i < n):
    ((S i= -1∨S i=0)∧Three X n B S2 i S N)∨(∃q,q+1 < n∧S i=((q+1:Nat):Int)∧up X n q=false∧Three X n B S2 i S N)∨
      ∃q k:Nat,q+1 < n∧S i=((q+1:Nat):Int)∧up X n q=true∧N (X q)=((k+1:Nat):Int)∧k < n∧Three X n B S2 i (putI S k (q:Int)) (putI N (X q) (k:Int)):=by
 rcases h.fin h2 hB hi (h.come h2 hB) with h1 | ⟨p,hp,e,_⟩
 · exact .inl ⟨.inl h1,h.skip h2 hB (fun p hp e=>by rw [h1] at e;omega)⟩
 · rcases p with _ | q
   · exact .inl ⟨.inr e,h.skip h2 hB (fun p hp e'=>by rw [e] at e';omega)⟩
   · cases hu:up X n q
     · refine .inr (.inl ⟨q,hp,e,hu,h.skip h2 hB (fun p hp' e'=>?_)⟩)
       obtain rfl:q=p:=by rw [e] at e';omega
       exact hu
     · obtain ⟨k,hk,hk1,hk2,hki⟩:=h.room h2 hB hi (show q < n by omega) hu e
       exact .inr (.inr ⟨q,k,hp,e,hu,hk,by omega,h.put h2 hB hi (by omega) hu e hk hk1 hk2 hki⟩)
theorem InOrder.isSA {s:Nat→Nat} (h:InOrder n (SLess (xi X) n) S s):IsSA (xi X) n s:=by
 obtain ⟨_,h1,h2,h3⟩:=h
 refine ⟨h1,fun i j hij hj=>?_⟩
 rcases sless_or (V:=xi X) (n:=n) (a:=s i) (b:=s j) (by have:=h1 i (by omega);omega) (by have:=h1 j hj;omega) (fun e=>by have:=h2 i j (by omega) hj e;omega) with g | g
 · exact g
 · exact absurd g (h3 i j hij hj)
end
end Go.Proofs.YtcidobpbepeakaaGreat

namespace Go.Proofs.YtcidobpbepeakaaGreat
theorem atF_any {F:Nat→Int} {x:Int}:∀m,(∀p q,p < q→q < m→F p < F q)→∃k,AtF F m k x
 | 0,_=>⟨0,Nat.le_refl _,fun p h=>absurd h (Nat.not_lt_zero p),fun h=>absurd h (Nat.not_lt_zero _)⟩
 | m+1,h=>by
   obtain ⟨k,hk⟩:=atF_any (F:=F) (x:=x) m (fun p q h1 h2=>h p q h1 (by omega))
   rcases Nat.lt_or_eq_of_le hk.le with e | e
   · exact ⟨k,by omega,hk.low,fun _=>hk.high e⟩
   · subst e
     by_cases g:F k < x
     · exact ⟨k+1,Nat.le_refl _,fun p hp=>by
        rcases Nat.lt_or_eq_of_le (Nat.le_of_lt_succ hp) with q | q
        · exact hk.low p q
        · subst q;exact g,fun h=>absurd h (Nat.lt_irrefl _)⟩
     · exact ⟨k,Nat.le_succ k,hk.low,fun _=>by omega⟩
theorem EnumS.more {S:Int→Prop} {F:Nat→Int} {m:Nat} (h:EnumS S F m) (x:Int):∃F' m',EnumS (fun y=>S y∨y=x) F' m'∧m≤m'∧(¬S x→m'=m+1):=by
 obtain ⟨k,hk⟩:=atF_any (F:=F) (x:=x) m h.rise
 by_cases g:k < m∧F k=x
 · exact ⟨F,m,h.old (fun _=>Iff.rfl) g.1 g.2,Nat.le_refl _,fun q=>absurd ((h.each x).2 ⟨k,g.1,g.2⟩) q⟩
 · exact ⟨insE F k x,m+1,h.ins (fun _=>Iff.rfl) hk (fun q e=>g ⟨q,e⟩),Nat.le_succ m,fun _=>rfl⟩
theorem rng_enum (V:Nat→Int) (a b:Int):∀n,∃G t,EnumS (RngS V a b n) G t
 | 0=>⟨fun _=>0,0,EnumS.none fun x ⟨j,hj,_⟩=>absurd hj (Nat.not_lt_zero j)⟩
 | n+1=>by
   obtain ⟨G,t,h⟩:=rng_enum V a b n
   by_cases g:a≤(n:Int)∧(n:Int) < b
   · obtain ⟨F',m',h',_⟩:=h.more (V n)
     exact ⟨F',m',h'.congr fun x=>(RngS.in_ g.1 g.2 x).symm⟩
   · exact ⟨G,t,h.congr fun x=>RngS.out_ g x⟩
theorem EnumS.whole {S T:Int→Prop} {F G:Nat→Int} {k t:Nat} (h:EnumS S F k) (h':EnumS T G t) (hS:∀x,S x→T x) (hk:t≤k):EnumS T F k:=by
 refine h.congr fun x=>⟨hS x,fun hx=>Classical.byContradiction fun hn=>?_⟩
 obtain ⟨F',m',h2,_,h3⟩:=h.more x
 have e:=h3 hn
 have:=h2.at_most (V:=G) (n:=t) fun y hy=>by
  rcases hy with hy | rfl
  · exact (h'.each y).1 (hS y hy)
  · exact (h'.each y).1 hx
 omega
theorem EnumS.part {S T:Int→Prop} {F G:Nat→Int} {k t:Nat} (h:EnumS S F k) (h':EnumS T G t) (hS:∀x,S x→T x):k≤t:=h.at_most fun x hx=>(h'.each x).1 (hS x hx)
structure FstB (V:Nat→Int) (a b:Int) (n i:Nat):Prop where
 lt:i < n
 lo:a≤(i:Int)
 hi:(i:Int) < b
 new:lastD V i < a
theorem FstB.one {V:Nat→Int} {a b:Int} {n i j:Nat} (h:FstB V a b n i) (h':FstB V a b n j) (e:V i=V j):i=j:=by
 have key:∀ {i j:Nat},FstB V a b n i→FstB V a b n j→V i=V j→¬i < j:=fun {i j} h h' e g=>by
  have h1:=h'.new
  have h2:=h.lo
  rcases lastD_is V j with ⟨_,g2⟩ | ⟨p,_,g2,_,g4⟩
  · exact g2 i g e
  · by_cases q:p < i
    · exact g4 i q g e
    · omega
 have h1:=key h h' e
 have h2:=key h' h e.symm
 omega
theorem FstB.of {V:Nat→Int} {a b:Int} {n:Nat} (ha:0≤a):∀ {j:Nat},j < n→a≤(j:Int)→(j:Int) < b→∃i,FstB V a b n i∧V i=V j:=by
 intro j
 induction j using Nat.strongRecOn with
 | ind j ih=>
   intro h1 h2 h3
   by_cases g:lastD V j < a
   · exact ⟨j,⟨h1,h2,h3,g⟩,rfl⟩
   · rcases lastD_is V j with ⟨g1,_⟩ | ⟨p,g1,g2,g3,_⟩
     · omega
     · obtain ⟨i,k1,k2⟩:=ih p g1 (by omega) (by omega) (by omega)
       exact ⟨i,k1,k2.trans g3⟩
theorem FstB.rng {V:Nat→Int} {a b:Int} {n:Nat} (ha:0≤a) (x:Int):RngS V a b n x↔∃i,FstB V a b n i∧V i=x:=by
 constructor
 · rintro ⟨j,hj,g1,g2,rfl⟩
   exact FstB.of ha hj g1 g2
 · rintro ⟨i,h,rfl⟩
   exact ⟨i,h.lt,h.lo,h.hi,rfl⟩
theorem RngS.from0 {V:Nat→Int} {a b:Int} {n:Nat} (x:Int):RngS V (max a 0) b n x↔RngS V a b n x:=by
 constructor
 · rintro ⟨j,hj,g1,g2,g3⟩
   exact ⟨j,hj,by omega,g2,g3⟩
 · rintro ⟨j,hj,g1,g2,g3⟩
   exact ⟨j,hj,by omega,g2,g3⟩
structure LsIn (V:Nat→Int) (a b:Int) (n:Nat) (s:Nat→Nat) (k:Nat) (X Y:Nat→Int) (m:Nat):Prop where
 fst:∀j,j < k→FstB V a b n (s j)
 inj:∀i j,i < k→j < k→s i=s j→i=j
 room:∀j,j < m→(a≤X j∧X j≤max a (n:Int))∧(min b 0≤Y j∧Y j≤b)
 cover:∀i,FstB V a b n i→(∃j,j < k∧s j=i)∨∃j,j < m∧X j≤(i:Int)∧(i:Int) < Y j
 apart:∀i j,i < k→j < m→X j≤(s i:Int)→(s i:Int) < Y j→False
 disj:∀i j (p:Nat),i < j→j < m→X i≤(p:Int)→(p:Int) < Y i→X j≤(p:Int)→(p:Int) < Y j→False
def setF (U:Nat→Int) (n:Nat) (x:Int):Nat→Int:=fun j=>if j=n then x else U j
theorem setF_at (U:Nat→Int) (n:Nat) (x:Int):setF U n x n=x:=if_pos rfl
theorem setF_off (U:Nat→Int) {n j:Nat} (x:Int) (h:j≠n):setF U n x j=U j:=if_neg h
def setN (s:Nat→Nat) (k i:Nat):Nat→Nat:=fun j=>if j=k then i else s j
theorem setN_at (s:Nat→Nat) (k i:Nat):setN s k i k=i:=if_pos rfl
theorem setN_off (s:Nat→Nat) {k j:Nat} (i:Nat) (h:j≠k):setN s k i j=s j:=if_neg h
section
variable {V:Nat→Int} {a b:Int} {n:Nat} {s:Nat→Nat} {k:Nat} {X Y:Nat→Int} {m:Nat}
theorem LsIn.start (V:Nat→Int) (a b:Int) (n:Nat) (s:Nat→Nat) (X Y:Nat→Int) (hX:X 0=a) (hY:Y 0=b):LsIn V a b n s 0 X Y 1 where
 fst:=fun j h=>absurd h (Nat.not_lt_zero j)
 inj:=fun i _ h=>absurd h (Nat.not_lt_zero i)
 room:=fun j h=>by
  obtain rfl:j=0:=by omega
  rw [hX,hY]
  omega
 cover:=fun i h=>.inr ⟨0,Nat.one_pos,by rw [hX];exact h.lo,by rw [hY];exact h.hi⟩
 apart:=fun i _ h=>absurd h (Nat.not_lt_zero i)
 disj:=fun i j p h1 h2=>by omega
theorem LsIn.miss (h:LsIn V a b n s k X Y (m+1)) (hn:∀i,FstB V a b n i→X m≤(i:Int)→(i:Int) < Y m→False):LsIn V a b n s k X Y m where
 fst:=h.fst
 inj:=h.inj
 room:=fun j hj=>h.room j (by omega)
 cover:=fun i hi=>by
  rcases h.cover i hi with g | ⟨j,hj,g1,g2⟩
  · exact .inl g
  · rcases Nat.lt_or_eq_of_le (Nat.le_of_lt_succ hj) with q | q
    · exact .inr ⟨j,q,g1,g2⟩
    · subst q
      exact absurd g2 fun g2=>hn i hi g1 g2
 apart:=fun i j hi hj=>h.apart i j hi (by omega)
 disj:=fun i j p h1 h2=>h.disj i j p h1 (by omega)
theorem LsIn.hit (h:LsIn V a b n s k X Y (m+1)) {i:Nat} (hi:FstB V a b n i) (h1:X m≤(i:Int)) (h2:(i:Int) < Y m):
    LsIn V a b n (setN s k i) (k+1) (setF (setF X m ((i:Int)+1)) (m+1) (X m)) (setF (setF Y m (Y m)) (m+1) (i:Int)) (m+2) where
 fst:=fun j hj=>by
  by_cases e:j=k
  · rw [e,setN_at];exact hi
  · rw [setN_off _ _ e];exact h.fst j (by omega)
 inj:=fun p q hp hq e=>by
  by_cases e1:p=k <;> by_cases e2:q=k
  · rw [e1,e2]
  · rw [e1,setN_at,setN_off _ _ e2] at e
    exact absurd h2 fun h2=>h.apart q m (by omega) (by omega) (by rw [←e];exact h1) (by rw [←e];exact h2)
  · rw [e2,setN_at,setN_off _ _ e1] at e
    exact absurd h2 fun h2=>h.apart p m (by omega) (by omega) (by rw [e];exact h1) (by rw [e];exact h2)
  · rw [setN_off _ _ e1,setN_off _ _ e2] at e
    exact h.inj p q (by omega) (by omega) e
 room:=fun j hj=>by
  have hr:=h.room m (by omega)
  have:=hi.lt
  by_cases e1:j=m+1
  · rw [e1,setF_at,setF_at]
    omega
  · rw [setF_off _ _ e1,setF_off _ _ e1]
    by_cases e2:j=m
    · rw [e2,setF_at,setF_at]
      omega
    · rw [setF_off _ _ e2,setF_off _ _ e2]
      exact h.room j (by omega)
 cover:=fun q hq=>by
  rcases h.cover q hq with ⟨j,hj,g⟩ | ⟨j,hj,g1,g2⟩
  · exact .inl ⟨j,by omega,by rw [setN_off _ _ (by omega)];exact g⟩
  · rcases Nat.lt_or_eq_of_le (Nat.le_of_lt_succ hj) with r | r
    · exact .inr ⟨j,by omega,by rw [setF_off _ _ (by omega),setF_off _ _ (by omega)];exact g1,by rw [setF_off _ _ (by omega),setF_off _ _ (by omega)];exact g2⟩
    · subst r
      rcases Nat.lt_trichotomy q i with r | r | r
      · exact .inr ⟨j+1,by omega,by rw [setF_at];exact g1,by rw [setF_at];omega⟩
      · exact .inl ⟨k,by omega,by rw [setN_at];exact r.symm⟩
      · exact .inr ⟨j,by omega,by rw [setF_off _ _ (by omega),setF_at];omega,by rw [setF_off _ _ (by omega),setF_at];exact g2⟩
 apart:=fun p j hp hj=>by
  by_cases e:p=k
  · rw [e,setN_at]
    by_cases e1:j=m+1
    · rw [e1,setF_at,setF_at];omega
    · rw [setF_off _ _ e1,setF_off _ _ e1]
      by_cases e2:j=m
      · rw [e2,setF_at,setF_at];omega
      · rw [setF_off _ _ e2,setF_off _ _ e2]
        intro g1 g2
        exact h.disj j m i (by omega) (by omega) g1 g2 h1 h2
  · rw [setN_off _ _ e]
    by_cases e1:j=m+1
    · rw [e1,setF_at,setF_at]
      intro g1 g2
      exact h.apart p m (by omega) (by omega) g1 (by omega)
    · rw [setF_off _ _ e1,setF_off _ _ e1]
      by_cases e2:j=m
      · rw [e2,setF_at,setF_at]
        intro g1 g2
        exact h.apart p m (by omega) (by omega) (by omega) g2
      · rw [setF_off _ _ e2,setF_off _ _ e2]
        exact h.apart p j (by omega) (by omega)
 disj:=fun p j q hp hj=>by
  by_cases e1:j=m+1
  · subst e1
    rw [setF_off (setF X m ((i:Int)+1)) _ (by omega),setF_off (setF Y m (Y m)) _ (by omega),setF_at,setF_at]
    by_cases e2:p=m
    · rw [e2,setF_at,setF_at];omega
    · rw [setF_off _ _ e2,setF_off _ _ e2]
      intro g1 g2 g3 g4
      exact h.disj p m q (by omega) (by omega) g1 g2 g3 (by omega)
  · rw [setF_off _ _ e1,setF_off _ _ e1,setF_off _ _ (by omega),setF_off _ _ (by omega)]
    by_cases e2:j=m
    · subst e2
      rw [setF_at,setF_at,setF_off _ _ (by omega),setF_off _ _ (by omega)]
      intro g1 g2 g3 g4
      exact h.disj p j q (by omega) (by omega) g1 g2 (by omega) g4
    · rw [setF_off _ _ e2,setF_off _ _ e2,setF_off _ _ (by omega),setF_off _ _ (by omega)]
      exact h.disj p j q hp (by omega)
theorem LsIn.few (h:LsIn V a b n s k X Y m):k≤n:=Nat.le_trans (pigeon n k (fun _=>true) s (fun i hi=>⟨(h.fst i hi).lt,rfl⟩) h.inj) (Pl.cnt_le _ n)
theorem least_none {L:Nat→Int} {x y:Int} (h:lstR L x y n < 0):∀i,FstB V a b n i→x≤(i:Int)→(i:Int) < y→False:=fun i hi h1 h2=>by
 rcases lstR_is L x y n with ⟨_,g⟩ | ⟨p,g,_⟩
 · exact g i hi.lt ⟨h1,h2⟩
 · omega
theorem least_high {x y:Int} {p:Nat} (h:lstR (lastD V) x y n=(p:Int)) (hp:a≤lastD V p):∀i,FstB V a b n i→x≤(i:Int)→(i:Int) < y→False:=fun i hi h1 h2=>by
 rcases lstR_is (lastD V) x y n with ⟨g,_⟩ | ⟨q,g,g2⟩
 · omega
 · obtain rfl:q=p:=by omega
   have:=g2.le i hi.lt h1 h2
   have:=hi.new
   omega
theorem least_hit {x y:Int} {p:Nat} (h:lstR (lastD V) x y n=(p:Int)) (hp:lastD V p < a) (hx:a≤x) (hy:y≤b):FstB V a b n p∧x≤(p:Int)∧(p:Int) < y:=by
 rcases lstR_is (lastD V) x y n with ⟨g,_⟩ | ⟨q,g,g2⟩
 · omega
 · obtain rfl:q=p:=by omega
   exact ⟨⟨g2.lt,by have:=g2.lo;omega,by have:=g2.hi;omega,hp⟩,g2.lo,g2.hi⟩
theorem LsIn.sorted (h:LsIn V a b n s k X Y m) {ys:List Int} (hl:ys.length=k) (hp:ys.Perm ((List.range k).map fun j=>V (s j))) (hy:ys.Pairwise (·≤·)):EnumS (fun x=>∃j,j < k∧V (s j)=x) (fun p=>ys.getD p 0) k:=by
 have hnd:((List.range k).map fun j=>V (s j)).Nodup:=by
  refine List.pairwise_map.2 (List.Pairwise.imp_of_mem (fun {p q} ha hb g=>?_) List.nodup_range)
  rw [List.mem_range] at ha hb
  intro e
  exact g (h.inj p q ha hb ((h.fst p ha).one (h.fst q hb) e))
 have hnd2:ys.Nodup:=hp.symm.nodup hnd
 have hlt:ys.Pairwise (· < ·):=(hy.and hnd2).imp fun h=>by omega
 have hget:∀p,p < k→∀(q:p < ys.length),ys.getD p 0=ys[p]:=fun p _ q=>by rw [List.getD_eq_getElem?_getD,List.getElem?_eq_getElem q];rfl
 refine ⟨fun p q hpq hq=>?_,fun x=>?_⟩
 · show ys.getD p 0 < ys.getD q 0
   rw [hget p (by omega) (by omega),hget q hq (by omega)]
   exact List.pairwise_iff_getElem.1 hlt p q (by omega) (by omega) hpq
 · have h1:(∃j,j < k∧V (s j)=x)↔x∈ys:=by
    rw [hp.mem_iff,List.mem_map]
    constructor
    · rintro ⟨j,hj,e⟩
      exact ⟨j,List.mem_range.2 hj,e⟩
    · rintro ⟨j,hj,e⟩
      exact ⟨j,List.mem_range.1 hj,e⟩
   rw [h1,List.mem_iff_getElem]
   constructor
   · rintro ⟨p,hp2,e⟩
     exact ⟨p,by omega,by show ys.getD p 0=x;rw [hget p (by omega) hp2,e]⟩
   · rintro ⟨p,hp2,e⟩
     exact ⟨p,by omega,by
      have e:ys.getD p 0=x:=e
      rw [hget p hp2 (by omega)] at e
      exact e⟩
theorem LsIn.done {a0:Int} (h:LsIn V (max a0 0) b n s k X Y m) {F:Nat→Int} (hF:EnumS (fun x=>∃j,j < k∧V (s j)=x) F k) {most:Int} (h1:(k:Int)≤max 0 most) (h2:m=0∨most≤(k:Int)):
    ∃G t,EnumS (RngS V a0 b n) G t∧(k:Int)=max 0 (min most (t:Int))∧(∀p q,p < q→q < k→F p < F q)∧∀p,p < k→RngS V a0 b n (F p):=by
 obtain ⟨G,t,hG⟩:=rng_enum V a0 b n
 have hS:∀x,(∃j,j < k∧V (s j)=x)→RngS V a0 b n x:=fun x ⟨j,hj,e⟩=>(RngS.from0 x).1 ((FstB.rng (by omega) x).2 ⟨s j,h.fst j hj,e⟩)
 have hkt:=hF.part hG hS
 refine ⟨G,t,hG,?_,hF.rise,fun p hp=>hS _ ((hF.each _).2 ⟨p,hp,rfl⟩)⟩
 rcases h2 with rfl | h2
 · have:t≤k:=hG.part hF fun x hx=>by
    obtain ⟨i,hi,e⟩:=(FstB.rng (by omega) x).1 ((RngS.from0 x).2 hx)
    rcases h.cover i hi with ⟨j,hj,e2⟩ | ⟨j,hj,_⟩
    · exact ⟨j,hj,by rw [e2];exact e⟩
    · exact absurd hj (Nat.not_lt_zero j)
   omega
 · omega
end
end Go.Proofs.YtcidobpbepeakaaGreat

namespace Go.Proofs.YtcidobpbepeakaaGreat
open Pl (cnt cnt_congr cnt_zero cnt_le cnt_add cnt_succ)
theorem docI_here {S:List Sec} {d o:Nat} {x:Sec} (h:S[d]?=some x) (ho:o≤x.n):docI S ((offT S d+o:Nat):Int)=((d:Int),(o:Int)):=by
 unfold docI
 rw [if_neg (by omega),Int.toNat_natCast,locT_at h ho]
theorem docI_doc {S:List Sec} {p d:Nat} {x:Sec} (h:S[d]?=some x) (hp:p < lenT S):(docI S (p:Int)).1=(d:Int)↔offT S d≤p∧p < offT S d+(x.n+1):=by
 constructor
 · intro hd
   obtain ⟨d',o,x',h1,h2,rfl⟩:=locT_some hp
   rw [docI_here h1 h2] at hd
   have hd:(d':Int)=(d:Int):=hd
   obtain rfl:d'=d:=by omega
   rw [h] at h1
   cases h1
   omega
 · rintro ⟨h1,h2⟩
   obtain ⟨o,rfl⟩:∃o,p=offT S d+o:=⟨p - offT S d,by omega⟩
   rw [docI_here h (by omega)]
theorem docI_room {S:List Sec} {p:Nat} (hp:p < lenT S):∃d:Nat,d < S.length∧(docI S (p:Int)).1=(d:Int):=by
 obtain ⟨d,o,x,h1,h2,rfl⟩:=locT_some hp
 exact ⟨d,(List.getElem?_eq_some_iff.1 h1).1,by rw [docI_here h1 h2]⟩
section
variable {S:List Sec} {m:Nat} {V:Nat→Nat}
theorem cnt_doc (hS:∀x∈S,∀k,k < x.n→x.V k < 256) (hV:∀k,k < m→V k < 256) (d:Nat):cnt (fun p=>decide ((docI S (p:Int)).1=(d:Int))&&stB (symI S) (lenT S) (patI S.length V) m p) (lenT S)=tmA S m V d:=by
 by_cases hd:d < S.length
 · obtain ⟨x,hx⟩:∃x,S[d]?=some x:=⟨_,List.getElem?_eq_getElem hd⟩
   have hin:=offT_in hx
   obtain ⟨r,hr⟩:∃r,lenT S=offT S d+((x.n+1)+r):=⟨lenT S - (offT S d+(x.n+1)),by omega⟩
   have h0:cnt (fun p=>decide ((docI S (p:Int)).1=(d:Int))&&stB (symI S) (lenT S) (patI S.length V) m p) (offT S d)=0:=cnt_zero fun j hj=>by
    have:¬(docI S (j:Int)).1=(d:Int):=fun g=>by
     have:=(docI_doc hx (show j < lenT S by omega)).1 g
     omega
    rw [decide_eq_false this,Bool.false_and]
   have h2:cnt (fun j=>decide ((docI S ((offT S d+((x.n+1)+j):Nat):Int)).1=(d:Int))&&stB (symI S) (lenT S) (patI S.length V) m (offT S d+((x.n+1)+j))) r=0:=cnt_zero fun j hj=>by
    have:¬(docI S ((offT S d+((x.n+1)+j):Nat):Int)).1=(d:Int):=fun g=>by
     have:=(docI_doc hx (show offT S d+((x.n+1)+j) < lenT S by omega)).1 g
     omega
    rw [decide_eq_false this,Bool.false_and]
   have h1:cnt (fun j=>decide ((docI S ((offT S d+j:Nat):Int)).1=(d:Int))&&stB (symI S) (lenT S) (patI S.length V) m (offT S d+j)) (x.n+1)=cnt (occB x m V) (x.n+1):=cnt_congr fun j hj=>by
    rw [docI_here hx (by omega),stB_occ hS hV hx (by omega),decide_eq_true rfl,Bool.true_and]
   have e:cnt (fun p=>decide ((docI S (p:Int)).1=(d:Int))&&stB (symI S) (lenT S) (patI S.length V) m p) (lenT S)=cnt (fun p=>decide ((docI S (p:Int)).1=(d:Int))&&stB (symI S) (lenT S) (patI S.length V) m p) (offT S d+((x.n+1)+r)):=by rw [←hr]
   rw [e,cnt_add,h0,Nat.zero_add,cnt_add,h1,h2,Nat.add_zero,tmA_at hx]
   rfl
 · rw [cnt_zero]
   · unfold tmA
     rw [List.getElem?_eq_none (by omega)]
   · intro j hj
     obtain ⟨d',h1,h2⟩:=docI_room hj
     rw [h2,decide_eq_false (by omega),Bool.false_and]
noncomputable def rgS (S:List Sec) (m:Nat) (V:Nat→Nat) (s:Nat→Nat):Nat×Nat:=rngF (fun i=>stB (symI S) (lenT S) (patI S.length V) m (s i)) (lenT S)
def owS (S:List Sec) (s:Nat→Nat):Nat→Int:=fun i=>(docI S ((s i:Nat):Int)).1
variable {s:Nat→Nat}
theorem rgS_le (S:List Sec) (m:Nat) (V:Nat→Nat) (s:Nat→Nat):(rgS S m V s).1≤(rgS S m V s).2∧(rgS S m V s).2≤lenT S:=rngF_le _ _
theorem cnt_rgS (hs:IsSA (symI S) (lenT S) s) (hS:∀x∈S,∀k,k < x.n→x.V k < 256) (hV:∀k,k < m→V k < 256) (d:Nat):(partL (owS S s) ((rgS S m V s).1:Int) ((rgS S m V s).2:Int) (lenT S)).countP (fun x=>decide (x=(d:Int)))=tmA S m V d:=by
 rw [countP_partL,←cnt_doc hS hV d,←cnt_bij ⟨hs.1,fun i j hi hj he=>hs.inj hi hj he⟩ fun p=>decide ((docI S (p:Int)).1=(d:Int))&&stB (symI S) (lenT S) (patI S.length V) m p]
 refine cnt_congr fun j hj=>?_
 have h:=rngF_in hs (P:=patI S.length V) (m:=m) hj
 rw [Bool.and_comm]
 congr 1
 rw [Bool.eq_iff_iff,decide_eq_true_iff,h]
 show ((rgS S m V s).1:Int)≤(j:Int)∧(j:Int) < ((rgS S m V s).2:Int)↔(rgS S m V s).1≤j∧j < (rgS S m V s).2
 omega
theorem mem_rgS (hs:IsSA (symI S) (lenT S) s) (hS:∀x∈S,∀k,k < x.n→x.V k < 256) (hV:∀k,k < m→V k < 256) {y:Int}:y∈partL (owS S s) ((rgS S m V s).1:Int) ((rgS S m V s).2:Int) (lenT S)↔∃d:Nat,d < S.length∧0 < tmA S m V d∧y=(d:Int):=by
 constructor
 · intro hy
   obtain ⟨j,hj,_,_,e⟩:=mem_partL.1 hy
   obtain ⟨d,h1,h2⟩:=docI_room (hs.1 j hj)
   have e2:y=(d:Int):=e.symm.trans h2
   refine ⟨d,h1,?_,e2⟩
   rw [←cnt_rgS hs hS hV d,List.countP_pos_iff]
   exact ⟨y,hy,decide_eq_true e2⟩
 · rintro ⟨d,_,h2,rfl⟩
   rw [←cnt_rgS hs hS hV d,List.countP_pos_iff] at h2
   obtain ⟨y,hy,e⟩:=h2
   rw [decide_eq_true_iff] at e
   rw [←e]
   exact hy
theorem prW_pairs (hs:IsSA (symI S) (lenT S) s) (hS:∀x∈S,∀k,k < x.n→x.V k < 256) (hV:∀k,k < m→V k < 256):PairsOf (partL (owS S s) ((rgS S m V s).1:Int) ((rgS S m V s).2:Int) (lenT S)) (prW S m V S.length):=by
 refine ⟨prW_rise S m V _,fun d hd=>?_,fun x hx=>?_⟩
 · obtain ⟨j,_,h2,rfl⟩:=mem_prW.1 hd
   exact ⟨(cnt_rgS hs hS hV j).symm,h2⟩
 · obtain ⟨d,h1,h2,rfl⟩:=(mem_rgS hs hS hV).1 hx
   exact ⟨_,mem_prW.2 ⟨d,h1,h2,rfl⟩,rfl⟩
theorem rank_rgS (hs:IsSA (symI S) (lenT S) s) (hS:∀x∈S,∀k,k < x.n→x.V k < 256) (hV:∀k,k < m→V k < 256) {R:List (Int×Nat)} (h:BestOf (partL (owS S s) ((rgS S m V s).1:Int) ((rgS S m V s).2:Int) (lenT S)) R):RkOf (prW S m V S.length) R:=by
 have hD:=prW_pairs hs hS hV
 have hm:∀d,d∈R↔d∈prW S m V S.length:=fun d=>by rw [h.mem,hD.mem]
 refine ⟨h.rise,hm,?_⟩
 have h1:R.Nodup:=h.rise.imp fun {a b} g e=>by rw [e] at g;exact g.no
 have h2:(prW S m V S.length).Nodup:=hD.rise.imp fun {a b} g e=>by rw [e] at g;omega
 exact ((List.perm_ext_iff_of_nodup h1 h2).2 hm).length_eq
theorem many_rgS (hs:IsSA (symI S) (lenT S) s) (hS:∀x∈S,∀k,k < x.n→x.V k < 256) (hV:∀k,k < m→V k < 256) (hm:0 < m):(rgS S m V s).2 - (rgS S m V s).1=tmW S m V S.length:=by
 have h:=rngF_places hs (P:=patI S.length V) hm
 rw [plsF_cnt _ _ _ hm] at h
 have h2:=cnt_occ hS hV S.length (Nat.le_refl _)
 exact h.trans h2
theorem enum_prW (S:List Sec) (m:Nat) (V:Nat→Nat):∀k,EnumS (fun y=>∃d:Nat,d < k∧0 < tmA S m V d∧y=(d:Int)) (fun j=>((prW S m V k).map Prod.fst).getD j 0) (prW S m V k).length:=fun k=>by
 have hr:=prW_rise S m V k
 have hat:∀p,p < (prW S m V k).length→∃d,(prW S m V k)[p]?=some d∧((prW S m V k).map Prod.fst).getD p 0=d.1:=fun p hp=>by
  refine ⟨_,List.getElem?_eq_getElem hp,?_⟩
  rw [List.getD_eq_getElem?_getD,List.getElem?_map,List.getElem?_eq_getElem hp]
  rfl
 refine ⟨fun p q hpq hq=>?_,fun x=>?_⟩
 · obtain ⟨d,h1,h2⟩:=hat p (by omega)
   obtain ⟨e,h3,h4⟩:=hat q hq
   rw [h2,h4]
   rw [List.pairwise_iff_getElem] at hr
   have h5:=hr p q (by omega) hq hpq
   have h1:=(List.getElem?_eq_some_iff.1 h1).2
   have h3:=(List.getElem?_eq_some_iff.1 h3).2
   rw [h1,h3] at h5
   exact h5
 · constructor
   · rintro ⟨d,h1,h2,rfl⟩
     obtain ⟨p,hp⟩:=List.getElem?_of_mem (mem_prW.2 ⟨d,h1,h2,rfl⟩)
     have hl:=(List.getElem?_eq_some_iff.1 hp).1
     obtain ⟨e,h3,h4⟩:=hat p hl
     rw [hp] at h3
     injection h3 with h3
     subst h3
     exact ⟨p,hl,h4⟩
   · rintro ⟨p,hp,rfl⟩
     obtain ⟨e,h3,h4⟩:=hat p hp
     obtain ⟨j,h5,h6,h7⟩:=mem_prW.1 (List.mem_of_getElem? h3)
     exact ⟨j,h5,h6,h4.trans (by rw [h7])⟩
theorem enum_rgS (hs:IsSA (symI S) (lenT S) s) (hS:∀x∈S,∀k,k < x.n→x.V k < 256) (hV:∀k,k < m→V k < 256):EnumS (RngS (owS S s) ((rgS S m V s).1:Int) ((rgS S m V s).2:Int) (lenT S)) (fun j=>((prW S m V S.length).map Prod.fst).getD j 0) (prW S m V S.length).length:=(enum_prW S m V S.length).congr fun _=>(mem_rgS hs hS hV).symm.trans mem_partL
theorem enum_unlT (D:Nat→Int) (a:Nat) {n:Nat}:∀b,b≤n→∃F,EnumS (RngS D (a:Int) (b:Int) n) F (unlT D a b n)
 | 0,_=>⟨fun _=>0,by
   have h:unlT D a 0 n=0:=cnt_zero fun j _=>decide_eq_false (by omega)
   rw [h]
   exact EnumS.none fun x ⟨j,_,_,h,_⟩=>by omega⟩
 | b+1,hb=>by
   obtain ⟨F,hF⟩:=enum_unlT D a (n:=n) b (by omega)
   have hstep:unlT D a (b+1) n=unlT D a b n+(if a≤b∧lastD D b < (a:Int) then 1 else 0):=by
    unfold unlT
    have e:∀j,decide (a≤j∧j < b+1∧lastD D j < (a:Int))=(decide (a≤j∧j < b∧lastD D j < (a:Int)) || decide (j=b∧a≤b∧lastD D b < (a:Int))):=fun j=>by
     rw [Bool.eq_iff_iff,Bool.or_eq_true,decide_eq_true_iff,decide_eq_true_iff,decide_eq_true_iff]
     constructor
     · rintro ⟨h1,h2,h3⟩
       by_cases e:j=b
       · subst e
         exact .inr ⟨rfl,h1,h3⟩
       · exact .inl ⟨h1,by omega,h3⟩
     · rintro (⟨h1,h2,h3⟩ | ⟨rfl,h2,h3⟩)
       · exact ⟨h1,by omega,h3⟩
       · exact ⟨h2,by omega,h3⟩
    rw [cnt_congr fun j _=>e j,cnt_add_or (fun j=>by
     rw [decide_eq_true_iff,decide_eq_true_iff]
     omega)]
    congr 1
    by_cases h:a≤b∧lastD D b < (a:Int)
    · rw [if_pos h]
      obtain ⟨r,rfl⟩:∃r,n=b+(1+r):=⟨n - (b+1),by omega⟩
      have z1:cnt (fun j=>decide (j=b∧a≤b∧lastD D b < (a:Int))) b=0:=cnt_zero fun j hj=>decide_eq_false (by omega)
      have z2:cnt (fun j=>decide (b+(1+j)=b∧a≤b∧lastD D b < (a:Int))) r=0:=cnt_zero fun j hj=>decide_eq_false (by omega)
      rw [cnt_add,cnt_add,z1,z2]
      show 0+((0+if decide (b+0=b∧a≤b∧lastD D b < (a:Int))=true then 1 else 0)+0)=1
      rw [if_pos (by rw [decide_eq_true_iff];exact ⟨rfl,h⟩)]
    · rw [if_neg h]
      exact cnt_zero fun j _=>decide_eq_false fun g=>h ⟨g.2.1,g.2.2⟩
   have hset:∀y,RngS D (a:Int) ((b+1:Nat):Int) n y↔RngS D (a:Int) (b:Int) n y∨(a≤b∧y=D b):=fun y=>by
    constructor
    · rintro ⟨j,h1,h2,h3,rfl⟩
      by_cases e:j=b
      · subst e
        exact .inr ⟨by omega,rfl⟩
      · exact .inl ⟨j,h1,h2,by omega,rfl⟩
    · rintro (⟨j,h1,h2,h3,rfl⟩ | ⟨h1,rfl⟩)
      · exact ⟨j,h1,h2,by omega,rfl⟩
      · exact ⟨b,by omega,by omega,by omega,rfl⟩
   by_cases hab:a≤b
   · have hseen:RngS D (a:Int) (b:Int) n (D b)↔¬lastD D b < (a:Int):=by
      rcases lastD_is D b with ⟨h1,h2⟩ | ⟨p,h1,h2,h3,h4⟩
      · rw [h1]
        constructor
        · rintro ⟨j,_,h5,h6,h7⟩
          exact absurd h7 (h2 j (by omega))
        · intro h
          omega
      · rw [h2]
        constructor
        · rintro ⟨j,_,h5,h6,h7⟩ h8
          exact h4 j (by omega) (by omega) h7
        · intro h
          exact ⟨p,by omega,by omega,by omega,h3⟩
     obtain ⟨F',m',h1,h2,h3⟩:=hF.more (D b)
     have h4:EnumS (RngS D (a:Int) ((b+1:Nat):Int) n) F' m':=h1.congr fun y=>by
      rw [hset]
      constructor
      · rintro (g | g)
        · exact .inl g
        · exact .inr ⟨hab,g⟩
      · rintro (g | g)
        · exact .inl g
        · exact .inr g.2
     by_cases hl:lastD D b < (a:Int)
     · rw [hstep,if_pos ⟨hab,hl⟩]
       rw [h3 (fun g=>(hseen.1 g) hl)] at h4
       exact ⟨F',h4⟩
     · rw [hstep,if_neg fun g=>hl g.2,Nat.add_zero]
       refine ⟨F,hF.congr fun y=>?_⟩
       rw [hset]
       constructor
       · exact .inl
       · rintro (g | ⟨_,rfl⟩)
         · exact g
         · exact hseen.2 hl
   · rw [hstep,if_neg fun g=>hab g.1,Nat.add_zero]
     refine ⟨F,hF.congr fun y=>?_⟩
     rw [hset]
     constructor
     · exact .inl
     · rintro (g | g)
       · exact g
       · exact absurd g.1 hab
theorem unlT_rgS (hs:IsSA (symI S) (lenT S) s) (hS:∀x∈S,∀k,k < x.n→x.V k < 256) (hV:∀k,k < m→V k < 256):unlT (owS S s) (rgS S m V s).1 (rgS S m V s).2 (lenT S)=(prW S m V S.length).length:=by
 obtain ⟨F,hF⟩:=enum_unlT (owS S s) (rgS S m V s).1 (rgS S m V s).2 (rgS_le S m V s).2
 exact (hF.one (enum_rgS hs hS hV)).1
theorem docs_rgS (hs:IsSA (symI S) (lenT S) s) (hS:∀x∈S,∀k,k < x.n→x.V k < 256) (hV:∀k,k < m→V k < 256) (hm:0 < m):docsI (owS S s) (lcpI (symI S) (lenT S) fun i=>((s i:Nat):Int)) (lenT S) ((rgS S m V s).1:Int) ((rgS S m V s).2:Int)=(((prW S m V S.length).length:Nat):Int):=by
 have h:=tally_docs (D:=owS S s) hs (P:=patI S.length V) hm
 have h2:=unlT_rgS hs hS hV
 unfold rgS at h2 ⊢
 rw [h,h2]
def plcS (S:List Sec) (q:Int):Int×Nat:=((docI S q).1,(docI S q).2.toNat)
theorem plcS_at {d o:Nat} {x:Sec} (h:S[d]?=some x) (ho:o≤x.n):plcS S ((offT S d+o:Nat):Int)=((d:Int),o):=by
 unfold plcS
 rw [docI_here h ho]
 rfl
theorem plsF_in (hS:∀x∈S,∀k,k < x.n→x.V k < 256) (hV:∀k,k < m→V k < 256) (hm:0 < m) {d:Nat} {x:Sec} (hx:S[d]?=some x):∀o,o≤x.n+1→(plsF (symI S) (lenT S) (patI S.length V) m (offT S d+o)).map (plcS S)=(plsF (symI S) (lenT S) (patI S.length V) m (offT S d)).map (plcS S)++plD (occB x m V) d o
 | 0,_=>(List.append_nil _).symm
 | o+1,ho=>by
   have ih:=plsF_in hS hV hm hx o (by omega)
   have hocc:=stB_occ hS hV hx (show o≤x.n by omega)
   rw [←Nat.add_assoc]
   rcases e:occB x m V o with _ | _
   · rw [plsF_miss fun g=>by rw [hocc,e] at g;exact absurd g.2 (by decide),plD_miss e,ih]
   · rw [plsF_hit ⟨hm,hocc.trans e⟩,plD_hit e,List.map_append,ih,List.append_assoc]
     congr 2
     show [plcS S ((offT S d+o:Nat):Int)]=_
     rw [plcS_at hx (by omega)]
theorem plsF_docs (hS:∀x∈S,∀k,k < x.n→x.V k < 256) (hV:∀k,k < m→V k < 256) (hm:0 < m):∀d,d≤S.length→(plsF (symI S) (lenT S) (patI S.length V) m (offT S d)).map (plcS S)=plW S m V d
 | 0,_=>rfl
 | d+1,h=>by
   obtain ⟨x,hx⟩:∃x,S[d]?=some x:=⟨_,List.getElem?_eq_getElem (by omega)⟩
   rw [offT_succ hx,plsF_in hS hV hm hx (x.n+1) (Nat.le_refl _),plsF_docs hS hV hm d (by omega)]
   show _=plW S m V d++plA S m V d
   rw [plA_at hx]
end
theorem sym_last {S:List Sec} (h:0 < lenT S):OnceT (symI S) (lenT S):=by
 have hl:0 < S.length:=by
  rcases S with _ | ⟨x,S⟩
  · exact absurd h (by decide)
  · exact Nat.succ_pos _
 obtain ⟨x,hx⟩:∃x,S[S.length - 1]?=some x:=⟨_,List.getElem?_eq_getElem (by omega)⟩
 have hn:lenT S=offT S (S.length - 1)+(x.n+1):=by
  rw [←offT_succ hx,show S.length - 1+1=S.length by omega]
  rfl
 have hlast:symT S (lenT S - 1)=S.length - 1:=by
  rw [hn,show offT S (S.length - 1)+(x.n+1) - 1=offT S (S.length - 1)+x.n by omega]
  exact sym_end hx
 refine ⟨by omega,fun i hi he=>?_⟩
 unfold symI at he
 rw [hlast] at he
 obtain ⟨d,o,y,h1,h2,rfl⟩:=locT_some (S:=S) (p:=i) (by omega)
 have hd:=(List.getElem?_eq_some_iff.1 h1).1
 by_cases ho:o < y.n
 · rw [sym_byte h1 ho] at he
   omega
 · obtain rfl:o=y.n:=by omega
   rw [sym_end h1] at he
   obtain rfl:d=S.length - 1:=by omega
   rw [hx] at h1
   cases h1
   omega
end Go.Proofs.YtcidobpbepeakaaGreat

namespace Go.Proofs.YtcidobpbepeakaaGreat
open Go.RowKit
theorem prs_lit (w:World) (D:List (Int×Nat)) (hl:D.length≤4194304) (hd:∀d∈D,d.2≤4194304):PrsR (w.alloc (.cells (prcells D).toArray 60)) (some ⟨w.heap.size,0,none⟩) D:=by
 have h:=lies_new w 60 (prcells D)
 refine ⟨hl,fun i d hi=>⟨w.heap.size,0,rfl,by rw [size_alloc];omega,?_,?_,hd d (List.mem_of_getElem? hi)⟩⟩
 · rw [Nat.zero_add,h.cell]
   exact (prcells_at hi).1
 · rw [Nat.zero_add,h.cell]
   exact (prcells_at hi).2
theorem step_append_pair0 {ops:Array Oper} {rest:List Oper} {o:Oper} {a:Act} {Q:Exit→Act→World→Prop} (hgd:o.guard=none) (s x:Operand)
    (ho:o.op=.call { callee:=.builtin .append,args:=#[s,x],argTypes:=#[42,42] })
    {w:World} {B:Nat} {v:Value} {i:Nat} {xs:List Value} (hs:a.eval s=v) (hown:w.ownsRow B 60 2 v i xs) (hx:a.eval x=.slice (some ⟨w.heap.size,0,none⟩) 1 1) (hB:B≤w.heap.size) (hi:i≤4194304) (N:Nat) (hN:i+1=N)
    (h:∀g cap w',Hid (w'.ownsRow B 60 2 (.slice (some ⟨g,0,none⟩) N cap) N (xs++[.int .i64 0,.int .i64 0]))→Hid (w.grownBy w' v.ownBlock∧(v.ownBlock=some g∨w.heap.size≤g))→Below B w w'→wpList Tryz.prog ops Q rest (a.put o.dst (.slice (some ⟨g,0,none⟩) N cap)) w'):
    wpList Tryz.prog ops Q (o::rest) a (w.alloc (.cells #[.int .i64 0,.int .i64 0] 60)):=by
 obtain ⟨i0,hi0,hz0,hs0,hb0⟩:=info_parts info_pair
 subst hN
 refine wpList_append_lies (w.alloc (.cells #[.int .i64 0,.int .i64 0] 60)) hgd s x 42 ho B 60 i0 (.agg #[.int .i64 0,.int .i64 0]) 2 16 Tryz.underlying42 hi0 hz0 hs0 hb0 rfl (by decide) v i xs hs (hown.alloc _) ⟨w.heap.size,0,none⟩ 1 1 [.int .i64 0,.int .i64 0] hx rfl
  (World.news_of_block (cs:=#[.int .i64 0,.int .i64 0]) (t:=60) (fr:=(0,0)) (heap_alloc_new w _)) (by simp [Value.oneCell']) (by decide) (by unfold maxLen;omega) (by omega) (by rw [size_alloc];omega) (w.heap.size+1) (by rw [size_alloc]) (fun g cap w' h1 h2 h3 _=>?_)
 have hg:=grownBy_trans (World.grownBy_alloc w _ _) h2
 refine h g cap w' (Lib.hid h1) (Lib.hid ⟨hg,h3.imp id (fun e=>by omega)⟩) ?_
 exact ((Below.refl _ _).alloc hB _).grown h2 (by rw [size_alloc];omega) (fun k hk=>(hown.lt k hk).1)
end Go.Proofs.YtcidobpbepeakaaGreat
