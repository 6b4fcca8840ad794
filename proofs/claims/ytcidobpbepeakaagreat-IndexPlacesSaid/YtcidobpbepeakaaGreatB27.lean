/- Texts of ours, joined: BwDevM WavNar WavI WavLev BwtDev BestI BestGo. -/
import Derived.Test.YtcidobpbepeakaaGreatB01
import Derived.Test.YtcidobpbepeakaaGreatB02
import Derived.Deep.CutBlock
import Derived.Deep.CutRange
import Derived.Test.YtcidobpbepeakaaGreatB04
import Derived.Test.YtcidobpbepeakaaGreatB13
import Derived.Test.YtcidobpbepeakaaGreatB03
import Derived.Test.YtcidobpbepeakaaGreatB06
import Derived.BigQuiet
import Derived.BigRegion
import Derived.Test.YtcidobpbepeakaaGreatB09
set_option maxRecDepth 1000000
set_option maxHeartbeats 6400000
namespace Go.Proofs.YtcidobpbepeakaaGreat
open Pl (cnt cnt_succ cnt_congr cnt_at_lt)
def AheadOf (V:Nat→Int) (x y:Nat):Prop:=V x < V y∨V x=V y∧x < y
section
variable {V:Nat→Int} {n:Nat}
theorem aheadOf_or {x y:Nat} (h:x≠y):AheadOf V x y∨AheadOf V y x:=by
 rcases Int.lt_trichotomy (V x) (V y) with g | g | g
 · exact .inl (.inl g)
 · rcases Nat.lt_or_gt_of_ne h with q | q
   · exact .inl (.inr ⟨g,q⟩)
   · exact .inr (.inr ⟨g.symm,q⟩)
 · exact .inr (.inl g)
theorem below_more {c c':Int} (h:c < c'):∀m,belowI V m c+aheadI V m c≤belowI V m c'
 | 0=>Nat.le_refl _
 | m+1=>by
   have:=below_more h m
   rw [belowI_succ,aheadI_succ,belowI_succ]
   by_cases h1:V m < c
   · rw [if_pos h1,if_neg (by omega),if_pos (by omega)]
     omega
   · rw [if_neg h1]
     by_cases h2:V m=c
     · rw [if_pos h2,if_pos (by omega)]
       omega
     · rw [if_neg h2]
       split <;> omega
theorem stepI_mono {i j:Nat} (hi:i < n) (_hj:j < n) (h:AheadOf V i j):stepI V n i < stepI V n j:=by
 unfold stepI
 rcases h with h | ⟨h,g⟩
 · have h1:=below_more h n (V:=V)
   have h2:aheadI V i (V i) < aheadI V n (V i):=cnt_at_lt (f:=fun k=>decide (V k=V i)) hi (by simp)
   omega
 · have h2:aheadI V i (V i) < aheadI V j (V i):=cnt_at_lt (f:=fun k=>decide (V k=V i)) g (by simp)
   rw [←h]
   omega
theorem stepI_inj {i j:Nat} (hi:i < n) (hj:j < n) (h:stepI V n i=stepI V n j):i=j:=by
 apply Classical.byContradiction
 intro hne
 rcases aheadOf_or (V:=V) hne with g | g
 · have:=stepI_mono hi hj g
   omega
 · have:=stepI_mono hj hi g
   omega
theorem stepI_onto {i:Nat} (hi:i < n):∃p,p < n∧stepI V n p=i:=inj_onto n (stepI V n) (fun _ h=>stepI_lt h) (fun _ _ h h' e=>stepI_inj h h' e) i hi
variable {X:Nat→Int}
end
end Go.Proofs.YtcidobpbepeakaaGreat

namespace Go.Proofs.YtcidobpbepeakaaGreat
open Pl (cnt cnt_succ cnt_congr)
def bitZ (x:Int) (b:Nat):Int:=x / 2^b%2
theorem bitZ_or (x:Int) (b:Nat):bitZ x b=0∨bitZ x b=1:=by unfold bitZ;omega
def bitN (x:Int) (b:Nat):Nat:=(bitZ x b).toNat
theorem bitN_int (x:Int) (b:Nat):((bitN x b:Nat):Int)=bitZ x b:=by
 unfold bitN
 have:=bitZ_or x b
 omega
theorem bitN_lt (x:Int) (b:Nat):bitN x b < 2:=by
 unfold bitN
 have:=bitZ_or x b
 omega
open Classical in
noncomputable def rowNext (R:Nat→Int) (n b:Nat) (p:Nat):Int:=if h:∃j,j < n∧stepI (fun j=>bitZ (R j) b) n j=p then R h.choose else 0
theorem rowNext_at {R:Nat→Int} {n b j:Nat} (hj:j < n):rowNext R n b (stepI (fun j=>bitZ (R j) b) n j)=R j:=by
 have h:∃j',j' < n∧stepI (fun j=>bitZ (R j) b) n j'=stepI (fun j=>bitZ (R j) b) n j:=⟨j,hj,rfl⟩
 unfold rowNext
 rw [dif_pos h]
 have h2:=h.choose_spec
 rw [stepI_inj h2.1 hj h2.2]
theorem rowNext_is {R:Nat→Int} {n b p:Nat} (hp:p < n):∃j,j < n∧stepI (fun j=>bitZ (R j) b) n j=p∧rowNext R n b p=R j:=by
 obtain ⟨j,hj,e⟩:=stepI_onto (V:=fun j=>bitZ (R j) b) hp
 exact ⟨j,hj,e,by rw [←e];exact rowNext_at hj⟩
noncomputable def levRow (V:Nat→Int) (n W:Nat):Nat→Nat→Int
 | 0=>V
 | k+1=>rowNext (levRow V n W k) n (W - 1 - k)
noncomputable def levBit (V:Nat→Int) (n W k i:Nat):Bool:=decide (bitZ (levRow V n W k i) (W - 1 - k)=1)
theorem levRow_room {V:Nat→Int} {n W:Nat} {lo hi:Int} (h:∀i,i < n→lo≤V i∧V i≤hi):∀k i,i < n→lo≤levRow V n W k i∧levRow V n W k i≤hi
 | 0,i,hi'=>h i hi'
 | k+1,i,hi'=>by
   obtain ⟨j,hj,_,e⟩:=rowNext_is (R:=levRow V n W k) (b:=W - 1 - k) hi'
   show lo≤rowNext (levRow V n W k) n (W - 1 - k) i∧rowNext (levRow V n W k) n (W - 1 - k) i≤hi
   rw [e]
   exact levRow_room h k j hj
end Go.Proofs.YtcidobpbepeakaaGreat
namespace Go.Proofs.YtcidobpbepeakaaGreat
open Pl (cnt cnt_succ cnt_congr cnt_mono cnt_at_lt)
theorem partL_len {V:Nat→Int} {p q:Nat} (hpq:p≤q):∀ {n:Nat},(partL V (p:Int) (q:Int) n).length=Nat.min n q - Nat.min n p
 | 0=>by
   show 0=Nat.min 0 q - Nat.min 0 p
   rw [show Nat.min 0 q=0 from Nat.min_eq_left (Nat.zero_le _)]
   omega
 | n+1=>by
   have ih:=partL_len (V:=V) hpq (n:=n)
   have e1:∀a b:Nat,(a≤b→Nat.min a b=a)∧(b≤a→Nat.min a b=b):=fun a b=>⟨Nat.min_eq_left,Nat.min_eq_right⟩
   by_cases h:(p:Int)≤(n:Int)∧(n:Int) < (q:Int)
   · rw [partL_hit h,List.length_append,ih,(e1 n q).1 (by omega),(e1 n p).2 (by omega),(e1 (n+1) q).1 (by omega),(e1 (n+1) p).2 (by omega)]
     show n - p+1=_
     omega
   · rw [partL_miss h,ih]
     by_cases hn:n < p
     · rw [(e1 n q).1 (by omega),(e1 n p).1 (by omega),(e1 (n+1) q).1 (by omega),(e1 (n+1) p).1 (by omega)]
       omega
     · rw [(e1 n q).2 (by omega),(e1 n p).2 (by omega),(e1 (n+1) q).2 (by omega),(e1 (n+1) p).2 (by omega)]
theorem partL_count {V:Nat→Int} {p q n:Nat} (hpq:p≤q) (hq:q≤n):(partL V (p:Int) (q:Int) n).length=q - p:=by
 rw [partL_len hpq,show Nat.min n q=q from Nat.min_eq_right hq,show Nat.min n p=p from Nat.min_eq_right (by omega)]
theorem cntR_past {V:Nat→Int} {d a b:Int} {m:Nat} (hm:b≤(m:Int)):∀k,cntR V d a b (m+k)=cntR V d a b m
 | 0=>rfl
 | k+1=>by
   rw [←Nat.add_assoc,cntR_miss (fun h=>by omega)]
   exact cntR_past hm k
theorem cntR_upto {V:Nat→Int} {d:Int} {p n:Nat} (hp:p≤n):cntR V d 0 (p:Int) n=cnt (fun j=>decide (V j=d)) p:=by
 obtain ⟨k,rfl⟩:∃k,n=p+k:=⟨n - p,by omega⟩
 rw [cntR_past (Int.le_refl _) k]
 unfold cntR
 refine cnt_congr fun j hj=>decide_eq_decide.2 ⟨fun h=>h.1,fun h=>⟨h,by omega,by omega⟩⟩
end Go.Proofs.YtcidobpbepeakaaGreat
namespace Go.Proofs.YtcidobpbepeakaaGreat
open Pl (cnt cnt_succ cnt_congr cnt_mono cnt_le)
def seg (f:Nat→Bool) (a b:Nat):Nat:=cnt f b - cnt f a
theorem seg_congr {f g:Nat→Bool} {a b:Nat} (h:∀j,j < b→f j=g j) (hab:a≤b):seg f a b=seg g a b:=by
 unfold seg
 rw [cnt_congr h,cnt_congr (fun j hj=>h j (by omega))]
theorem seg_all {f:Nat→Bool} {a b:Nat} (h:∀j,j < b→f j=true) (hab:a≤b):seg f a b=b - a:=by
 have e:∀m,m≤b→cnt f m=m:=by
  intro m
  induction m with
  | zero=>intro _;rfl
  | succ m ih=>
    intro hm
    rw [cnt_succ,ih (by omega),if_pos (h m (by omega))]
 unfold seg
 rw [e b (Nat.le_refl _),e a hab]
theorem seg_range (P:Nat→Bool) {a b n:Nat} (hab:a≤b) (hb:b≤n):cnt (fun j=>decide ((a:Int)≤(j:Int)∧(j:Int) < (b:Int))&&P j) n=seg P a b:=by
 have h1:cnt (fun j=>decide ((a:Int)≤(j:Int)∧(j:Int) < (b:Int))&&P j) n=cnt (fun j=>decide ((a:Int)≤(j:Int)∧(j:Int) < (b:Int))&&P j) b:=by
  obtain ⟨k,rfl⟩:∃k,n=b+k:=⟨n - b,by omega⟩
  rw [Pl.cnt_add,Pl.cnt_zero (n:=k) (fun j _=>by
   show (decide _&&_)=false
   rw [decide_eq_false (by omega),Bool.false_and]),Nat.add_zero]
 rw [h1]
 obtain ⟨k,rfl⟩:∃k,b=a+k:=⟨b - a,by omega⟩
 unfold seg
 rw [Pl.cnt_add,Pl.cnt_add P,Pl.cnt_zero (n:=a) (fun j hj=>by
  show (decide _&&_)=false
  rw [decide_eq_false (by omega),Bool.false_and]),Nat.zero_add,Nat.add_sub_cancel_left]
 exact cnt_congr fun j hj=>by
  show (decide _&&_)=_
  rw [decide_eq_true (by omega),Bool.true_and]
def down (R:Nat→Int) (n b:Nat) (c:Int) (i:Nat):Nat:=belowI (fun j=>bitZ (R j) b) n c+aheadI (fun j=>bitZ (R j) b) i c
theorem down_hit {R:Nat→Int} {n b i:Nat} {c:Int} (hi:i < n) (h:bitZ (R i) b=c):down R n b c (i+1)=down R n b c i+1∧rowNext R n b (down R n b c i)=R i:=by
 constructor
 · unfold down
   rw [aheadI_succ,if_pos h,Nat.add_assoc]
 · have e:down R n b c i=stepI (fun j=>bitZ (R j) b) n i:=by
    show _=belowI (fun j=>bitZ (R j) b) n (bitZ (R i) b)+aheadI (fun j=>bitZ (R j) b) i (bitZ (R i) b)
    rw [h]
    rfl
   rw [e]
   exact rowNext_at hi
theorem down_miss {R:Nat→Int} {n b i:Nat} {c:Int} (h:bitZ (R i) b≠c):down R n b c (i+1)=down R n b c i:=by
 unfold down
 rw [aheadI_succ,if_neg h,Nat.add_zero]
theorem down_mono {R:Nat→Int} {n b:Nat} {c:Int} {i j:Nat} (h:i≤j):down R n b c i≤down R n b c j:=Nat.add_le_add_left (cnt_mono _ h) _
theorem ones_zeros (R:Nat→Int) (b i:Nat):aheadI (fun j=>bitZ (R j) b) i 0+aheadI (fun j=>bitZ (R j) b) i 1=i:=by
 have h:=Pl.cnt_not (fun j=>decide (bitZ (R j) b=0)) i
 have e:cnt (fun j=>!decide (bitZ (R j) b=0)) i=aheadI (fun j=>bitZ (R j) b) i 1:=cnt_congr fun j _=>by
  rw [←decide_not]
  refine decide_eq_decide.2 ?_
  show ¬bitZ (R j) b=0↔bitZ (R j) b=1
  have:=bitZ_or (R j) b
  omega
 rw [e] at h
 exact h
theorem below_zero (R:Nat→Int) (n b:Nat):belowI (fun j=>bitZ (R j) b) n 0=0:=Pl.cnt_zero fun j _=>decide_eq_false (by
 have:=bitZ_or (R j) b
 show ¬bitZ (R j) b < 0
 omega)
theorem below_one (R:Nat→Int) (n b:Nat):belowI (fun j=>bitZ (R j) b) n 1=aheadI (fun j=>bitZ (R j) b) n 0:=cnt_congr fun j _=>decide_eq_decide.2 (by
 show bitZ (R j) b < 1↔bitZ (R j) b=0
 have:=bitZ_or (R j) b
 omega)
theorem down_zero (R:Nat→Int) (n b i:Nat):down R n b 0 i=aheadI (fun j=>bitZ (R j) b) i 0:=by
 unfold down
 rw [below_zero,Nat.zero_add]
theorem down_one (R:Nat→Int) (n b i:Nat):down R n b 1 i=aheadI (fun j=>bitZ (R j) b) n 0+aheadI (fun j=>bitZ (R j) b) i 1:=by
 unfold down
 rw [below_one]
theorem down_le {R:Nat→Int} {n b i:Nat} {c:Int} (hc:c=0∨c=1) (hi:i≤n):down R n b c i≤n:=by
 have h1:=ones_zeros R b n
 have h2:=cnt_mono (fun j=>decide (bitZ (R j) b=c)) hi
 have h2:aheadI (fun j=>bitZ (R j) b) i c≤aheadI (fun j=>bitZ (R j) b) n c:=h2
 rcases hc with rfl | rfl
 · rw [down_zero];omega
 · rw [down_one];omega
theorem down_cnt (R:Nat→Int) (n b:Nat) (c:Int) (P:Int→Bool):∀i,i≤n→
    cnt (fun p=>P (rowNext R n b p)) (down R n b c i)=cnt (fun p=>P (rowNext R n b p)) (down R n b c 0)+cnt (fun j=>decide (bitZ (R j) b=c)&&P (R j)) i
 | 0,_=>rfl
 | i+1,hi=>by
   have ih:=down_cnt R n b c P i (by omega)
   by_cases h:bitZ (R i) b=c
   · obtain ⟨h1,h2⟩:=down_hit (n:=n) (show i < n by omega) h
     rw [h1,cnt_succ,cnt_succ,h2,ih,decide_eq_true h,Bool.true_and,Nat.add_assoc]
   · rw [down_miss h,cnt_succ,ih,decide_eq_false h,Bool.false_and]
     rfl
theorem down_seg (R:Nat→Int) (n b:Nat) (c:Int) (P:Int→Bool) {i j:Nat} (hij:i≤j) (hj:j≤n):
    seg (fun p=>P (rowNext R n b p)) (down R n b c i) (down R n b c j)=seg (fun p=>decide (bitZ (R p) b=c)&&P (R p)) i j:=by
 have h1:=down_cnt R n b c P i (by omega)
 have h2:=down_cnt R n b c P j hj
 have h3:=cnt_mono (fun j=>decide (bitZ (R j) b=c)&&P (R j)) hij
 unfold seg
 rw [h1,h2]
 omega
structure Nar (V:Nat→Int) (n W k A B:Nat) (q:Int) (a b:Nat):Prop where
 le:a≤b
 room:b≤n
 many:∀P:Int→Bool,seg (fun j=>decide (V j / 2^(W - k)=q)&&P (V j)) A B=seg (fun p=>P (levRow V n W k p)) a b
theorem half_bit (x:Int) (b:Nat):x / 2^b=2*(x / 2^(b+1))+bitZ x b:=by
 unfold bitZ
 have e:(2:Int)^(b+1)=2^b*2:=Int.pow_succ 2 b
 rw [e,←Int.ediv_ediv_of_nonneg (by exact Int.le_of_lt (Int.pow_pos (by decide)))]
 omega
theorem Nar.start {V:Nat→Int} {n W A B:Nat} (hAB:A≤B) (hB:B≤n) (hV:∀i,i < n→0≤V i∧V i < 2^W):Nar V n W 0 A B 0 A B:=by
 refine ⟨hAB,hB,fun P=>seg_congr (fun j hj=>?_) hAB⟩
 have:=hV j (by omega)
 show (decide _&&P (V j))=P (V j)
 rw [decide_eq_true (by
  show V j / 2^W=0
  exact Int.ediv_eq_zero_of_lt this.1 this.2),Bool.true_and]
theorem Nar.step {V:Nat→Int} {n W k A B a b:Nat} {q:Int} (h:Nar V n W k A B q a b) (hk:k < W) (hAB:A≤B) {c:Int} (hc:c=0∨c=1):
    Nar V n W (k+1) A B (2*q+c) (down (levRow V n W k) n (W - 1 - k) c a) (down (levRow V n W k) n (W - 1 - k) c b):=by
 refine ⟨down_mono h.le,down_le hc h.room,fun P=>?_⟩
 have h1:=h.many (fun x=>decide (bitZ x (W - 1 - k)=c)&&P x)
 have h2:=down_seg (levRow V n W k) n (W - 1 - k) c P h.le h.room
 show _=seg (fun p=>P (rowNext (levRow V n W k) n (W - 1 - k) p)) _ _
 rw [h2,←h1]
 refine seg_congr (fun j _=>?_) hAB
 have e:W - (k+1)=W - 1 - k:=by omega
 have e2:W - k=(W - 1 - k)+1:=by omega
 show (decide (V j / 2^(W - (k+1))=2*q+c)&&P (V j))=(decide (V j / 2^(W - k)=q)&&(decide (bitZ (V j) (W - 1 - k)=c)&&P (V j)))
 rw [e,e2,half_bit (V j) (W - 1 - k),←Bool.and_assoc,←Bool.decide_and]
 congr 1
 refine decide_eq_decide.2 ?_
 have:=bitZ_or (V j) (W - 1 - k)
 generalize V j / 2^(W - 1 - k+1)=u
 omega
theorem Nar.size {V:Nat→Int} {n W k A B a b:Nat} {q:Int} (h:Nar V n W k A B q a b):b - a=seg (fun j=>decide (V j / 2^(W - k)=q)) A B:=by
 have h1:=h.many (fun _=>true)
 rw [seg_all (fun _ _=>rfl) h.le] at h1
 rw [←h1]
 unfold seg
 congr 1 <;> exact cnt_congr fun j _=>Bool.and_true _
theorem Nar.last {V:Nat→Int} {n W A B a b:Nat} {q:Int} (h:Nar V n W W A B q a b):b - a=seg (fun j=>decide (V j=q)) A B:=by
 rw [h.size,Nat.sub_self]
 unfold seg
 congr 1 <;> exact cnt_congr fun j _=>decide_eq_decide.2 (by rw [Int.pow_zero,Int.ediv_one])
end Go.Proofs.YtcidobpbepeakaaGreat
namespace Go.Proofs.YtcidobpbepeakaaGreat
open Pl (cnt cnt_succ cnt_congr cnt_mono cnt_le)
structure PartIn (R:Nat→Int) (n b i z o:Nat) (U Y:Nat→Int):Prop where
 zeros:z=aheadI (fun j=>bitZ (R j) b) i 0
 ones:o=aheadI (fun j=>bitZ (R j) b) i 1
 put0:∀j,j < i→bitZ (R j) b=0→U (aheadI (fun j=>bitZ (R j) b) j 0)=R j
 put1:∀j,j < i→bitZ (R j) b=1→Y (aheadI (fun j=>bitZ (R j) b) j 1)=R j
 rest:∀j,i≤j→j < n→U j=R j
theorem PartIn.start (R:Nat→Int) (n b:Nat) (Y:Nat→Int):PartIn R n b 0 0 0 R Y:=⟨rfl,rfl,fun j h=>absurd h (Nat.not_lt_zero j),fun j h=>absurd h (Nat.not_lt_zero j),fun _ _ _=>rfl⟩
theorem PartIn.all {R U Y:Nat→Int} {n b i z o:Nat} (h:PartIn R n b i z o U Y):z+o=i:=by
 rw [h.zeros,h.ones]
 exact ones_zeros R b i
theorem ahead_lt {X:Nat→Int} {i j:Nat} {c:Int} (h:j < i) (hc:X j=c):aheadI X j c < aheadI X i c:=Pl.cnt_at_lt (f:=fun j=>decide (X j=c)) h (decide_eq_true hc)
theorem PartIn.zero {R U Y:Nat→Int} {n b i z o:Nat} (h:PartIn R n b i z o U Y) (hb:bitZ (R i) b=0):PartIn R n b (i+1) (z+1) o (fun p=>if p=z then R i else U p) Y:=by
 have hall:=h.all
 refine ⟨?_,?_,fun j hj hjb=>?_,fun j hj hjb=>?_,fun j h1 h2=>?_⟩
 · rw [aheadI_succ,if_pos hb,h.zeros]
 · rw [aheadI_succ,if_neg (by rw [hb];decide),h.ones,Nat.add_zero]
 · by_cases e:j=i
   · rw [e]
     exact if_pos h.zeros.symm
   · have hlt:aheadI (fun j=>bitZ (R j) b) j 0 < aheadI (fun j=>bitZ (R j) b) i 0:=ahead_lt (X:=fun j=>bitZ (R j) b) (by omega) hjb
     have hlt:aheadI (fun j=>bitZ (R j) b) j 0 < z:=by rw [h.zeros];exact hlt
     show (if aheadI (fun j=>bitZ (R j) b) j 0=z then R i else _)=_
     rw [if_neg (by omega)]
     exact h.put0 j (by omega) hjb
 · have hji:j≠i:=fun e=>by
    rw [e,hb] at hjb
    exact absurd hjb (by decide)
   exact h.put1 j (by omega) hjb
 · show (if j=z then R i else U j)=R j
   rw [if_neg (by omega)]
   exact h.rest j (by omega) h2
theorem PartIn.one {R U Y Y':Nat→Int} {n b i z o:Nat} (h:PartIn R n b i z o U Y) (hb:bitZ (R i) b=1) (hY:∀p,p < o→Y' p=Y p) (ho:Y' o=R i):PartIn R n b (i+1) z (o+1) U Y':=by
 refine ⟨?_,?_,fun j hj hjb=>?_,fun j hj hjb=>?_,fun j h1 h2=>?_⟩
 · rw [aheadI_succ,if_neg (by rw [hb];decide),h.zeros,Nat.add_zero]
 · rw [aheadI_succ,if_pos hb,h.ones]
 · have hji:j≠i:=fun e=>by
    rw [e,hb] at hjb
    exact absurd hjb (by decide)
   exact h.put0 j (by omega) hjb
 · by_cases e:j=i
   · rw [e,←h.ones]
     exact ho
   · have hlt:aheadI (fun j=>bitZ (R j) b) j 1 < aheadI (fun j=>bitZ (R j) b) i 1:=ahead_lt (X:=fun j=>bitZ (R j) b) (by omega) hjb
     rw [hY _ (by rw [h.ones];exact hlt)]
     exact h.put1 j (by omega) hjb
 · exact h.rest j (by omega) h2
theorem PartIn.done {R U Y:Nat→Int} {n b z o:Nat} (h:PartIn R n b n z o U Y):∀p,p < n→(if z≤p∧p < z+o then Y (p - z) else U p)=rowNext R n b p:=fun p hp=>by
 have hall:=h.all
 obtain ⟨j,hj,e,e2⟩:=rowNext_is (R:=R) (b:=b) hp
 rw [e2,←e]
 have hs:stepI (fun j=>bitZ (R j) b) n j=belowI (fun j=>bitZ (R j) b) n (bitZ (R j) b)+aheadI (fun j=>bitZ (R j) b) j (bitZ (R j) b):=rfl
 rcases bitZ_or (R j) b with g | g
 · have hlt:aheadI (fun j=>bitZ (R j) b) j 0 < z:=by rw [h.zeros];exact ahead_lt (X:=fun j=>bitZ (R j) b) hj g
   rw [hs,g,below_zero,Nat.zero_add,if_neg (by omega)]
   exact h.put0 j hj g
 · have hlt:aheadI (fun j=>bitZ (R j) b) j 1 < o:=by rw [h.ones];exact ahead_lt (X:=fun j=>bitZ (R j) b) hj g
   rw [hs,g,below_one,←h.zeros,if_pos (by omega),Nat.add_sub_cancel_left]
   exact h.put1 j hj g
end Go.Proofs.YtcidobpbepeakaaGreat

namespace Go.Proofs.YtcidobpbepeakaaGreat
open Go.RowKit
def RightW (V:Nat→Int) (n:Nat) (most:Int):Prop:=0≤most∧most < 4194304∧n≤4194304∧∀i,i < n→0≤V i∧V i≤most
section
variable {At:Nat→World→Value→Nat→(Nat→Int)→Nat→Prop} {Vt:Nat→World→Value→Nat→(Nat→Bool)→Prop}
end
end Go.Proofs.YtcidobpbepeakaaGreat

namespace Go.Proofs.YtcidobpbepeakaaGreat
open Go.RowKit
theorem ofInt_n (x:Nat) (h:x < 2^64):(BitVec.ofInt 64 (x:Int)).toNat=x:=by
 rw [BitVec.toNat_ofInt]
 omega
end Go.Proofs.YtcidobpbepeakaaGreat

namespace Go.Proofs.YtcidobpbepeakaaGreat
open Go.RowKit
theorem bwFit_is (A:Option Addr) (n c:Nat) (V:Nat→Int) (al:Int) (B:Nat) (w:World) (hn:n≤4194304) (ho:Its w B A n V) (r:Bool) (hr:r=true↔RightS V n al):
    Calls Tryz.prog 175 #[.slice A n c,.int .i64 al] w fun e w'=>e=.returned (.bool r)∧w=w':=by
 have HR:=Lib.hid hr
 have HO:=Lib.hid ho
 clear ho hr
 by_cases hal:0≤al∧al≤4194304
 · obtain ⟨h1,h2⟩:=hal
   have d1:decide (al < 0)=false:=decide_eq_false (by omega)
   have d2:decide ((4194304:Int) < al)=false:=decide_eq_false (by omega)
   go_enter Tryz.func175,Tryz.ntmps175
   go_wp2_with fail
   go_loop [15] (fun v=>∃i:Nat,i≤n∧v=.int .i64 (i:Int)∧Hid (∀j,j < i→0≤V j∧V j < al)) (fun v=>n - (intOf v).toNat)
   case atStart=>exact ⟨0,Nat.zero_le _,rfl,Lib.hid (fun j hj=>absurd hj (Nat.not_lt_zero j))⟩
   case round=>
    obtain ⟨i,hi,rfl,hall⟩:=hrel
    by_cases hlt:i < n
    · have hlti:(i:Int) < (n:Int):=by omega
      obtain ⟨ad,rfl,_,hc,hv1,hv2⟩:=HO.out i hlt
      obtain ⟨v,hv⟩:∃v,V i=v:=⟨_,rfl⟩
      rw [hv] at hc hv1 hv2
      have HV:=Lib.hid hv
      clear hv
      by_cases hok:0≤v∧v < al
      · have e1:decide (v < 0)=false:=decide_eq_false (by omega)
        have e2:decide (al≤v)=false:=decide_eq_false (by omega)
        go_wp2_with fail
        go_round
        case rel=>exact ⟨i+1,by omega,by go_num,Lib.hid (fun j hj=>by
         by_cases e:j < i
         · exact hall.out j e
         · obtain rfl:j=i:=by omega
           rw [HV.out]
           exact hok)⟩
        case measure=>simp [intOf];omega
      · have hbad:Hid (¬RightS V n al):=Lib.hid (fun h=>hok (by rw [←HV.out];exact h.2 i hlt))
        have hcond:decide (v < 0)=true∨(decide (v < 0)=false∧decide (al≤v)=true):=by
         by_cases h0:v < 0
         · exact .inl (decide_eq_true h0)
         · exact .inr ⟨decide_eq_false h0,decide_eq_true (by omega)⟩
        obtain rfl:r=false:=by
         rcases r with _ | _
         · rfl
         · exact absurd (HR.out.1 rfl) hbad.out
        clear hok HR
        rcases hcond with e1 | ⟨e1,e2⟩
        all_goals
         go_wp2_with fail
         go_ret
         exact ⟨rfl,rfl⟩
    · obtain rfl:i=n:=by omega
      obtain rfl:r=true:=HR.out.2 ⟨⟨h1,h2,hn⟩,hall.out⟩
      go_wp2_with fail
      go_ret
      exact ⟨rfl,rfl⟩
 · have hbad:Hid (¬RightS V n al):=Lib.hid (fun h=>hal ⟨h.1.1,h.1.2.1⟩)
   have hcond:decide (al < 0)=true∨(decide (al < 0)=false∧decide ((4194304:Int) < al)=true):=by
    by_cases h0:al < 0
    · exact .inl (decide_eq_true h0)
    · exact .inr ⟨decide_eq_false h0,decide_eq_true (by omega)⟩
   obtain rfl:r=false:=by
    rcases r with _ | _
    · rfl
    · exact absurd (HR.out.1 rfl) hbad.out
   clear hal HR
   rcases hcond with d1 | ⟨d1,d2⟩
   all_goals
    go_enter Tryz.func175,Tryz.ntmps175
    go_wp2_with fail
    go_ret
    exact ⟨rfl,rfl⟩
theorem aheadI_none {V:Nat→Int} {c:Int}:∀ {n:Nat},(∀i,i < n→V i≠c)→aheadI V n c=0
 | 0,_=>rfl
 | n+1,h=>by
   rw [aheadI_succ,aheadI_none (fun i hi=>h i (by omega)),if_neg (h n (by omega))]
theorem belowI_next (V:Nat→Int) (c:Int):∀n,belowI V n (c+1)=belowI V n c+aheadI V n c
 | 0=>rfl
 | n+1=>by
   rw [belowI_succ,belowI_succ,aheadI_succ,belowI_next V c n]
   by_cases h1:V n < c
   · rw [if_pos h1,if_pos (by omega),if_neg (by omega)]
     omega
   · rw [if_neg h1]
     by_cases h2:V n=c
     · rw [if_pos h2,if_pos (by omega)]
       omega
     · rw [if_neg h2,if_neg (by omega)]
       omega
theorem belowI_none {V:Nat→Int} {c:Int}:∀ {n:Nat},(∀i,i < n→c≤V i)→belowI V n c=0
 | 0,_=>rfl
 | n+1,h=>by
   rw [belowI_succ,belowI_none (fun i hi=>h i (by omega)),if_neg (by have:=h n (by omega);omega)]
theorem below_any (A:Option Addr) (n c:Nat) (V:Nat→Int) (al:Nat) (w:World) (hn:n≤4194304) (hal:al≤4194303) (ho:Its w w.heap.size A n V) (hV:∀i,i < n→0≤V i∧V i < (al:Int)):
    Calls Tryz.prog 176 #[.slice A n c,.int .i64 (al:Int)] w fun e w'=>e=.returned (.slice (some ⟨w.heap.size,0,none⟩) (al+1) (al+1))∧Lies w' w.heap.size 3 (icells (fun x=>((belowI V n (x:Int):Nat):Int)) (al+1))∧Below w.heap.size w w':=by
 have HO:=Lib.hid ho
 have HV:=Lib.hid hV
 obtain ⟨a,za⟩:∃a,w.heap.size=a:=⟨_,rfl⟩
 have w1:IntKind.i64.wrap ((al:Int)+1)=((al+1:Nat):Int):=by rw [IntWalk.i64_in _ (by omega)];omega
 have hMk:=make_ints0 w (al+1) (by omega)
 rw [za] at hMk HO ⊢
 obtain ⟨m,hm⟩:∃m,al+1=m:=⟨_,rfl⟩
 rw [hm] at w1 hMk ⊢
 have HM:=Lib.hid hm
 obtain ⟨wa,hwa⟩:∃wa,w.alloc (.cells (icells (fun _=>0) m).toArray 3)=wa:=⟨_,rfl⟩
 have k1:Below a w wa:=by rw [←hwa,←za];exact (Below.refl _ _).alloc (Nat.le_refl _) _
 have l1:Lies wa a 3 (icells (fun _=>0) m):=by rw [←hwa,←za];exact lies_new w _ _
 rw [hwa] at hMk
 clear ho hV hm hwa za
 go_enter Tryz.func176,Tryz.ntmps176
 go_wp2_with fail
 go_loopw [14] (fun v wr=>∃i:Nat,i≤n∧v=.int .i64 (i:Int)∧Hid (∃U,Lies wr a 3 (icells U m)∧∀x,x < m→U x=((aheadI V i ((x:Int) - 1):Nat):Int))∧Hid (Below a w wr)) (fun v _=>n - (intOf v).toNat)
 case atStart=>exact ⟨0,Nat.zero_le _,rfl,Lib.hid ⟨_,l1,fun x _=>rfl⟩,Lib.hid k1⟩
 case round=>
  clear l1 k1 hMk
  obtain ⟨i,hi,rfl,hU,hb⟩:=hrel
  by_cases hlt:i < n
  · have hlti:(i:Int) < (n:Int):=by omega
    obtain ⟨ad,rfl,_,hc,_⟩:=HO.out.below hb.out i hlt
    obtain ⟨hv1,hv2⟩:=HV.out i hlt
    obtain ⟨p,hp⟩:∃p:Nat,V i=(p:Int):=⟨(V i).toNat,by omega⟩
    rw [hp] at hc hv2
    obtain ⟨U,hL,hU⟩:=hU.out
    have hm:=HM.out
    have w2:IntKind.i64.wrap ((p:Int)+1)=((p+1:Nat):Int):=by rw [IntWalk.i64_in _ (by omega)];omega
    have hp1:p+1 < m:=by omega
    have hc2:wr.cell? ⟨a,p+1,none⟩=some (.int .i64 ((aheadI V i (p:Int):Nat):Int)):=by
     rw [hL.cell,icells_at _ _ _ hp1,hU _ hp1,show (((p+1:Nat):Int) - 1)=(p:Int) by omega]
    have hf2:=hL.free (p+1)
    have hle:=aheadI_le V i (p:Int)
    obtain ⟨y,hy⟩:∃y,aheadI V i (p:Int)=y:=⟨_,rfl⟩
    rw [hy] at hc2 hle
    have w3:IntKind.i64.wrap ((y:Int)+1)=((y+1:Nat):Int):=by rw [IntWalk.i64_in _ (by omega)];omega
    have HU2:Hid (∃U',Lies (wr.setCell ⟨a,p+1,none⟩ (.int .i64 ((y+1:Nat):Int))) a 3 (icells U' m)∧∀x,x < m→U' x=((aheadI V (i+1) ((x:Int) - 1):Nat):Int)):=Lib.hid ⟨_,by
     have:=hL.put (p+1) (.int .i64 ((y+1:Nat):Int))
     rw [icells_put] at this
     exact this,fun x hx=>by
     rw [aheadI_succ,hp]
     by_cases e:x=p+1
     · rw [if_pos e,if_pos (by omega),show ((x:Int) - 1)=(p:Int) by omega,hy]
     · rw [if_neg e,if_neg (by omega),hU x hx,Nat.add_zero]⟩
    have HB2:Hid (Below a w (wr.setCell ⟨a,p+1,none⟩ (.int .i64 ((y+1:Nat):Int)))):=Lib.hid (hb.out.setCell (p:=⟨a,p+1,none⟩) (Nat.le_refl _) _)
    generalize p+1=p1 at w2 hp1 hc2 hf2 HU2 HB2
    generalize y+1=y1 at w3 HU2 HB2
    have bp:(p1:Int) < (m:Int):=by omega
    clear hU hL hp hy hm hb hle
    go_wp2_with fail
    go_roundw
    case rel=>exact ⟨i+1,by omega,by go_num,HU2,HB2⟩
    case measure=>simp [intOf];omega
  · have hin:i=n:=by omega
    have hge:¬(i:Int) < (n:Int):=by omega
    rw [hin] at hU
    have HU1:Hid (∃U,Lies wr a 3 (icells U m)∧∀x,x < m→U x=if x≤0 then ((belowI V n (x:Int):Nat):Int) else ((aheadI V n ((x:Int) - 1):Nat):Int)):=Lib.hid (by
     obtain ⟨U,h1,h2⟩:=hU.out
     refine ⟨U,h1,fun x hx=>?_⟩
     by_cases e:x≤0
     · rw [if_pos e,h2 x hx,aheadI_none (fun i hi=>by have:=HV.out i hi;omega),belowI_none (fun i hi=>by have:=HV.out i hi;omega)]
     · rw [if_neg e,h2 x hx])
    clear hU hin
    go_wp2_with fail
    go_loopw [27] (fun v wr=>∃q:Nat,q≤al∧v=.int .i64 (q:Int)∧Hid (∃U,Lies wr a 3 (icells U m)∧∀x,x < m→U x=if x≤q then ((belowI V n (x:Int):Nat):Int) else ((aheadI V n ((x:Int) - 1):Nat):Int))∧Hid (Below a w wr)) (fun v _=>al - (intOf v).toNat)
    case atStart=>exact ⟨0,Nat.zero_le _,rfl,HU1,hb⟩
    case round=>
     clear HU1 hb
     obtain ⟨q,hq,rfl,hU,hb⟩:=hrel
     by_cases hlq:q < al
     · have hlqi:(q:Int) < (al:Int):=by omega
       obtain ⟨U,hL,hU⟩:=hU.out
       have hm:=HM.out
       have hq1:q+1 < m:=by omega
       have hq0:q < m:=by omega
       have w2:IntKind.i64.wrap ((q:Int)+1)=((q+1:Nat):Int):=by rw [IntWalk.i64_in _ (by omega)];omega
       have hc1:wr.cell? ⟨a,q,none⟩=some (.int .i64 ((belowI V n (q:Int):Nat):Int)):=by
        rw [hL.cell,icells_at _ _ _ hq0,hU _ hq0,if_pos (Nat.le_refl _)]
       have hc2:wr.cell? ⟨a,q+1,none⟩=some (.int .i64 ((aheadI V n (q:Int):Nat):Int)):=by
        rw [hL.cell,icells_at _ _ _ hq1,hU _ hq1,if_neg (by omega),show (((q+1:Nat):Int) - 1)=(q:Int) by omega]
       have hf2:=hL.free (q+1)
       have hl1:=belowI_le V n (q:Int)
       have hl2:=aheadI_le V n (q:Int)
       have hsum:((belowI V n ((q+1:Nat):Int):Nat):Int)=((aheadI V n (q:Int)+belowI V n (q:Int):Nat):Int):=by
        rw [show ((q+1:Nat):Int)=(q:Int)+1 by omega,belowI_next,Nat.add_comm]
       obtain ⟨y,hy⟩:∃y,belowI V n (q:Int)=y:=⟨_,rfl⟩
       obtain ⟨z,hz⟩:∃z,aheadI V n (q:Int)=z:=⟨_,rfl⟩
       rw [hy] at hc1 hl1 hsum
       rw [hz] at hc2 hl2 hsum
       have w3:IntKind.i64.wrap ((z:Int)+(y:Int))=((z+y:Nat):Int):=by rw [IntWalk.i64_in _ (by omega)];omega
       have HU2:Hid (∃U',Lies (wr.setCell ⟨a,q+1,none⟩ (.int .i64 ((z+y:Nat):Int))) a 3 (icells U' m)∧∀x,x < m→U' x=if x≤q+1 then ((belowI V n (x:Int):Nat):Int) else ((aheadI V n ((x:Int) - 1):Nat):Int)):=Lib.hid ⟨_,by
        have:=hL.put (q+1) (.int .i64 ((z+y:Nat):Int))
        rw [icells_put] at this
        exact this,fun x hx=>by
        by_cases e:x=q+1
        · rw [if_pos e,if_pos (by omega),e,hsum]
        · rw [if_neg e,hU x hx]
          by_cases e2:x≤q
          · rw [if_pos e2,if_pos (by omega)]
          · rw [if_neg e2,if_neg (by omega)]⟩
       have HB2:Hid (Below a w (wr.setCell ⟨a,q+1,none⟩ (.int .i64 ((z+y:Nat):Int)))):=Lib.hid (hb.out.setCell (p:=⟨a,q+1,none⟩) (Nat.le_refl _) _)
       have HM2:=Lib.hid (Nat.succ_le_of_lt hlq)
       generalize hq2:q+1=q2 at w2 hq1 hc2 hf2 HU2 HB2
       have HQ2:=Lib.hid hq2
       generalize z+y=zy at w3 HU2 HB2
       have lne:q < q2:=by omega
       have bq:(q:Int) < (m:Int):=by omega
       have bq2:(q2:Int) < (m:Int):=by omega
       have hq2al:q2≤al:=by omega
       clear hU hL hm hb hy hz hsum hq2
       go_wp2_with fail
       go_big_region
       all_goals go_wp2_with fail
       all_goals go_roundw
       case rel=>exact ⟨q2,hq2al,rfl,Lib.hid (by
        obtain ⟨U',h1,h2⟩:=HU2.out
        exact ⟨U',h1.drew,h2⟩),Lib.hid (below_drewN' HB2.out 1)⟩
       case measure=>simp [intOf];omega
     · have hqa:q=al:=by omega
       have hge2:¬(q:Int) < (al:Int):=by omega
       have HF:Hid (Lies wr a 3 (icells (fun x=>((belowI V n (x:Int):Nat):Int)) m)):=Lib.hid (by
        obtain ⟨U,h1,h2⟩:=hU.out
        have hm:=HM.out
        rw [←icells_congr (U:=U) fun x hx=>by rw [h2 x hx,if_pos (by omega)]]
        exact h1)
       clear hU hqa
       go_wp2_with fail
       go_ret
       exact ⟨rfl,HF.out,hb.out⟩
end Go.Proofs.YtcidobpbepeakaaGreat

namespace Go.Proofs.YtcidobpbepeakaaGreat
open Go.RowKit
def cntP (l:List Int) (p:Int×Nat):Nat:=l.countP fun x=>decide (p.1≤x∧x < p.1+2^p.2)
def BetP (l:List Int) (p q:Int×Nat):Prop:=cntP l q < cntP l p∨(cntP l q=cntP l p∧p.1 < q.1)
def halvesP (l:List Int) (p:Int×Nat):List (Int×Nat):=[(p.1,p.2 - 1),(p.1+2^(p.2 - 1),p.2 - 1)].filter fun q=>decide (0 < cntP l q)
def startP (l:List Int) (W:Nat):List (Int×Nat):=if l=[] then [] else [(0,W)]
def noneP:Value:=.agg #[.int .i64 0,.int .i64 0]
section
variable {At:Nat→World→Value→Nat→(Nat→Int)→Nat→Prop} {St:Nat→Nat→(Nat→Prop)→World→Value→List Int→List (Int×Nat)→Prop}
end
end Go.Proofs.YtcidobpbepeakaaGreat

namespace Go.Proofs.YtcidobpbepeakaaGreat
theorem BetP.trans {l:List Int} {p q r:Int×Nat} (h:BetP l p q) (h':BetP l q r):BetP l p r:=by
 unfold BetP at*
 omega
def Apt (p q:Int×Nat):Prop:=p.1+2^p.2≤q.1∨q.1+2^q.2≤p.1
theorem pow_pos2 (n:Nat):(0:Int) < 2^n:=Int.pow_pos (by decide)
theorem Apt.ne {p q:Int×Nat} (h:Apt p q):p.1≠q.1:=by
 unfold Apt at h
 have:=pow_pos2 p.2
 have:=pow_pos2 q.2
 omega
theorem Apt.symm {p q:Int×Nat} (h:Apt p q):Apt q p:=Or.symm h
theorem best_part (l:List Int):∀P:List (Int×Nat),P≠[]→P.Pairwise Apt→∃p A B,P=A++p::B∧∀q∈A++B,BetP l p q
 | [],h,_=>absurd rfl h
 | [x],_,_=>⟨x,[],[],rfl,fun q hq=>by cases hq⟩
 | x::y::P,_,hp=>by
   rw [List.pairwise_cons] at hp
   obtain ⟨p,A,B,e,hb⟩:=best_part l (y::P) (by simp) hp.2
   have hne:=(hp.1 p (by rw [e];simp)).ne
   have ht:BetP l x p∨BetP l p x:=by
    unfold BetP
    omega
   rcases ht with h | h
   · refine ⟨x,[],y::P,rfl,fun q hq=>?_⟩
     have hq:q∈A++p::B:=by rw [←e];exact hq
     rcases List.mem_append.1 hq with g | g
     · exact h.trans (hb q (List.mem_append_left _ g))
     · rcases List.mem_cons.1 g with g | g
       · rw [g]
         exact h
       · exact h.trans (hb q (List.mem_append_right _ g))
   · refine ⟨p,x::A,B,by rw [e];rfl,fun q hq=>?_⟩
     rcases List.mem_cons.1 hq with g | g
     · rw [g]
       exact h
     · exact hb q g
theorem cntP_halves (l:List Int) {p:Int×Nat} (h:0 < p.2):cntP l p=cntP l (p.1,p.2 - 1)+cntP l (p.1+2^(p.2 - 1),p.2 - 1):=by
 have e:(2:Int)^p.2=2^(p.2 - 1)+2^(p.2 - 1):=by
  obtain ⟨k,hk⟩:∃k,p.2=k+1:=⟨p.2 - 1,by omega⟩
  rw [hk,Nat.add_sub_cancel,Int.pow_succ]
  omega
 have h2:=pow_pos2 (p.2 - 1)
 unfold cntP
 induction l with
 | nil=>rfl
 | cons x l ih=>
   rw [List.countP_cons,List.countP_cons,List.countP_cons,ih]
   show _+(if decide (p.1≤x∧x < p.1+2^p.2)=true then 1 else 0)=_+(if decide (p.1≤x∧x < p.1+2^(p.2 - 1))=true then 1 else 0)+(_+(if decide (p.1+2^(p.2 - 1)≤x∧x < p.1+2^(p.2 - 1)+2^(p.2 - 1))=true then 1 else 0))
   rw [e]
   simp only [decide_eq_true_iff]
   split <;> split <;> split <;> omega
theorem cntP_one (l:List Int) {p:Int×Nat} (h:p.2=0):cntP l p=l.countP fun x=>decide (x=p.1):=by
 unfold cntP
 refine List.countP_congr fun x _=>?_
 rw [decide_eq_true_iff,decide_eq_true_iff,h]
 show p.1≤x∧x < p.1+1↔x=p.1
 omega
structure SInv (K:Nat) (l:List Int) (P T:List (Int×Nat)) (I:Nat):Prop where
 pos:∀p∈P,0 < cntP l p
 apart:P.Pairwise Apt
 cover:∀x∈l,(∃p∈P,p.1≤x∧x < p.1+2^p.2)∨∃d∈T,d.1=x
 rise:T.Pairwise Bet
 many:∀d∈T,d.2=l.countP (fun x=>decide (x=d.1))∧0 < d.2
 ahead:∀d∈T,∀p∈P,cntP l p < d.2∨(cntP l p=d.2∧d.1 < p.1)
 sum:(T.map Prod.snd).sum+(P.map (cntP l)).sum=l.length
 idle:I+(P.map fun p=>cntP l p*p.2).sum≤K*l.length
theorem len_le_sum {T:List (Int×Nat)} (h:∀d∈T,0 < d.2):T.length≤(T.map Prod.snd).sum:=by
 induction T with
 | nil=>exact Nat.le_refl _
 | cons d T ih=>
   have h1:=h d (List.mem_cons_self ..)
   have h2:=ih fun e he=>h e (List.mem_cons_of_mem _ he)
   show T.length+1≤d.2+(T.map Prod.snd).sum
   omega
theorem SInv.start {K:Nat} {l:List Int} (h:∀x∈l,0≤x∧x < 2^K):SInv K l (startP l K) [] 0:=by
 unfold startP
 by_cases hl:l=[]
 · rw [if_pos hl,hl]
   exact ⟨fun p hp=>(by cases hp),List.Pairwise.nil,fun x hx=>(by cases hx),List.Pairwise.nil,fun d hd=>(by cases hd),fun d hd=>(by cases hd),rfl,Nat.le_refl _⟩
 · rw [if_neg hl]
   have hc:cntP l (0,K)=l.length:=by
    unfold cntP
    rw [List.countP_eq_length]
    intro x hx
    rw [decide_eq_true_iff]
    have:=h x hx
    show 0≤x∧x < 0+2^K
    omega
   have hp:0 < l.length:=List.length_pos_iff.2 hl
   refine ⟨fun p hp'=>?_,List.pairwise_singleton _ _,fun x hx=>.inl ⟨(0,K),List.mem_singleton.2 rfl,?_⟩,List.Pairwise.nil,fun d hd=>(by cases hd),fun d hd=>(by cases hd),?_,?_⟩
   · obtain rfl:=List.mem_singleton.1 hp'
     omega
   · have:=h x hx
     show 0≤x∧x < 0+2^K
     omega
   · show 0+(cntP l (0,K)+0)=l.length
     omega
   · show 0+(cntP l (0,K)*K+0)≤K*l.length
     rw [hc,Nat.zero_add,Nat.add_zero,Nat.mul_comm]
     exact Nat.le_refl _
section
variable {K:Nat} {l:List Int} {A B T:List (Int×Nat)} {p:Int×Nat} {I:Nat}
theorem SInv.tell (h:SInv K l (A++p::B) T I) (hb:∀q∈A++B,BetP l p q) (h0:p.2=0):SInv K l (A++B) (T++[(p.1,cntP l p)]) I:=by
 have hsub:(A++B).Sublist (A++p::B):=(List.Sublist.refl A).append (List.sublist_cons_self p B)
 have hpm:p∈A++p::B:=List.mem_append_right _ (List.mem_cons_self ..)
 refine ⟨fun q hq=>h.pos q (hsub.subset hq),h.apart.sublist hsub,fun x hx=>?_,?_,fun d hd=>?_,fun d hd q hq=>?_,?_,?_⟩
 · rcases h.cover x hx with ⟨q,hq,h1⟩ | ⟨d,hd,h1⟩
   · rcases List.mem_append.1 hq with g | g
     · exact .inl ⟨q,List.mem_append_left _ g,h1⟩
     · rcases List.mem_cons.1 g with g | g
       · rw [g,h0] at h1
         have h1:p.1≤x∧x < p.1+1:=h1
         exact .inr ⟨_,List.mem_append_right _ (List.mem_singleton.2 rfl),show p.1=x by omega⟩
       · exact .inl ⟨q,List.mem_append_right _ g,h1⟩
   · exact .inr ⟨d,List.mem_append_left _ hd,h1⟩
 · rw [List.pairwise_append]
   refine ⟨h.rise,List.pairwise_singleton _ _,fun d hd e he=>?_⟩
   obtain rfl:=List.mem_singleton.1 he
   exact h.ahead d hd p hpm
 · rcases List.mem_append.1 hd with g | g
   · exact h.many d g
   · obtain rfl:=List.mem_singleton.1 g
     exact ⟨cntP_one l h0,h.pos p hpm⟩
 · rcases List.mem_append.1 hd with g | g
   · exact h.ahead d g q (hsub.subset hq)
   · obtain rfl:=List.mem_singleton.1 g
     exact hb q hq
 · have:=h.sum
   simp only [List.map_append,List.sum_append,List.map_cons,List.sum_cons,List.map_nil,List.sum_nil] at this ⊢
   omega
 · have:=h.idle
   simp only [List.map_append,List.sum_append,List.map_cons,List.sum_cons] at this ⊢
   omega
theorem halves_in {q:Int×Nat} (h:q∈halvesP l p) (hp:0 < p.2):0 < cntP l q∧p.1≤q.1∧q.1+2^q.2≤p.1+2^p.2∧cntP l q≤cntP l p:=by
 have e:(2:Int)^p.2=2^(p.2 - 1)+2^(p.2 - 1):=by
  obtain ⟨k,hk⟩:∃k,p.2=k+1:=⟨p.2 - 1,by omega⟩
  rw [hk,Nat.add_sub_cancel,Int.pow_succ]
  omega
 have h2:=pow_pos2 (p.2 - 1)
 have h3:=cntP_halves l hp
 unfold halvesP at h
 rw [List.mem_filter,decide_eq_true_iff] at h
 obtain ⟨h,hc⟩:=h
 refine ⟨hc,?_⟩
 simp only [List.mem_cons,List.not_mem_nil,or_false] at h
 rcases h with rfl | rfl
 · refine ⟨Int.le_refl _,?_,by omega⟩
   show p.1+2^(p.2 - 1)≤p.1+2^p.2
   omega
 · refine ⟨?_,?_,by omega⟩
   · show p.1≤p.1+2^(p.2 - 1)
     omega
   · show p.1+2^(p.2 - 1)+2^(p.2 - 1)≤p.1+2^p.2
     omega
theorem halves_sum (f:Int×Nat→Nat) (hf:∀q,cntP l q=0→f q=0):((halvesP l p).map f).sum=f (p.1,p.2 - 1)+f (p.1+2^(p.2 - 1),p.2 - 1):=by
 unfold halvesP
 by_cases h1:0 < cntP l (p.1,p.2 - 1)
 · by_cases h2:0 < cntP l (p.1+2^(p.2 - 1),p.2 - 1)
   · rw [List.filter_cons_of_pos (by simpa using h1),List.filter_cons_of_pos (by simpa using h2)]
     simp
   · rw [List.filter_cons_of_pos (by simpa using h1),List.filter_cons_of_neg (by simpa using h2)]
     have:=hf _ (show cntP l (p.1+2^(p.2 - 1),p.2 - 1)=0 by omega)
     simp [this]
 · by_cases h2:0 < cntP l (p.1+2^(p.2 - 1),p.2 - 1)
   · rw [List.filter_cons_of_neg (by simpa using h1),List.filter_cons_of_pos (by simpa using h2)]
     have:=hf _ (show cntP l (p.1,p.2 - 1)=0 by omega)
     simp [this]
   · rw [List.filter_cons_of_neg (by simpa using h1),List.filter_cons_of_neg (by simpa using h2)]
     have:=hf _ (show cntP l (p.1,p.2 - 1)=0 by omega)
     have:=hf _ (show cntP l (p.1+2^(p.2 - 1),p.2 - 1)=0 by omega)
     simp [*]
theorem SInv.half (h:SInv K l (A++p::B) T I) (h0:0 < p.2):SInv K l (halvesP l p++(A++B)) T (I+1):=by
 have hsub:(A++B).Sublist (A++p::B):=(List.Sublist.refl A).append (List.sublist_cons_self p B)
 have hpm:p∈A++p::B:=List.mem_append_right _ (List.mem_cons_self ..)
 have hpos:=h.pos p hpm
 have e:(2:Int)^p.2=2^(p.2 - 1)+2^(p.2 - 1):=by
  obtain ⟨k,hk⟩:∃k,p.2=k+1:=⟨p.2 - 1,by omega⟩
  rw [hk,Nat.add_sub_cancel,Int.pow_succ]
  omega
 have hpq:∀q∈A++B,Apt p q:=fun q hq=>by
  have hr:=h.apart
  rw [List.pairwise_append,List.pairwise_cons] at hr
  rcases List.mem_append.1 hq with g | g
  · exact (hr.2.2 q g p (List.mem_cons_self ..)).symm
  · exact hr.2.1.1 q g
 refine ⟨fun q hq=>?_,?_,fun x hx=>?_,h.rise,h.many,fun d hd q hq=>?_,?_,?_⟩
 · rcases List.mem_append.1 hq with g | g
   · exact (halves_in g h0).1
   · exact h.pos q (hsub.subset g)
 · rw [List.pairwise_append]
   refine ⟨?_,h.apart.sublist hsub,fun q hq r hr=>?_⟩
   · unfold halvesP
     refine List.Pairwise.filter _ ?_
     rw [List.pairwise_cons]
     refine ⟨fun q hq=>?_,List.pairwise_singleton _ _⟩
     obtain rfl:=List.mem_singleton.1 hq
     exact .inl (Int.le_refl _)
   · have h1:=halves_in hq h0
     have h2:=hpq r hr
     unfold Apt at*
     omega
 · rcases h.cover x hx with ⟨q,hq,h1⟩ | h1
   · by_cases g:q=p
     · subst g
       have hh:∀r:Int×Nat,r∈[(q.1,q.2 - 1),(q.1+2^(q.2 - 1),q.2 - 1)]→r.1≤x∧x < r.1+2^r.2→∃r∈halvesP l q++(A++B),r.1≤x∧x < r.1+2^r.2:=fun r hr hx2=>⟨r,List.mem_append_left _ (by
        unfold halvesP
        rw [List.mem_filter,decide_eq_true_iff]
        refine ⟨hr,?_⟩
        unfold cntP
        rw [List.countP_pos_iff]
        exact ⟨x,hx,decide_eq_true hx2⟩),hx2⟩
       by_cases g2:x < q.1+2^(q.2 - 1)
       · exact .inl (hh (q.1,q.2 - 1) (by simp) ⟨h1.1,g2⟩)
       · exact .inl (hh (q.1+2^(q.2 - 1),q.2 - 1) (by simp) ⟨by show q.1+2^(q.2 - 1)≤x;omega,by show x < q.1+2^(q.2 - 1)+2^(q.2 - 1);omega⟩)
     · refine .inl ⟨q,List.mem_append_right _ ?_,h1⟩
       rcases List.mem_append.1 hq with g3 | g3
       · exact List.mem_append_left _ g3
       · rcases List.mem_cons.1 g3 with g3 | g3
         · exact absurd g3 g
         · exact List.mem_append_right _ g3
   · exact .inr h1
 · rcases List.mem_append.1 hq with g | g
   · have h1:=halves_in g h0
     have h2:=h.ahead d hd p hpm
     omega
   · exact h.ahead d hd q (hsub.subset g)
 · have h1:=h.sum
   have h2:=halves_sum (l:=l) (p:=p) (cntP l) (fun q hq=>hq)
   have h3:=cntP_halves l h0
   simp only [List.map_append,List.sum_append,List.map_cons,List.sum_cons] at h1 ⊢
   omega
 · have h1:=h.idle
   have h2:=halves_sum (l:=l) (p:=p) (fun q=>cntP l q*q.2) (fun q hq=>by show cntP l q*q.2=0;rw [hq,Nat.zero_mul])
   have h3:=cntP_halves l h0
   have h4:cntP l p*p.2=cntP l (p.1,p.2 - 1)*(p.2 - 1)+cntP l (p.1+2^(p.2 - 1),p.2 - 1)*(p.2 - 1)+cntP l p:=by
    rw [←Nat.add_mul,←h3]
    obtain ⟨k,hk⟩:∃k,p.2=k+1:=⟨p.2 - 1,by omega⟩
    rw [hk,Nat.add_sub_cancel,Nat.mul_succ]
   simp only [List.map_append,List.sum_append,List.map_cons,List.sum_cons] at h1 ⊢
   have h2:(List.map (fun q=>cntP l q*q.2) (halvesP l p)).sum=cntP l (p.1,p.2 - 1)*(p.2 - 1)+cntP l (p.1+2^(p.2 - 1),p.2 - 1)*(p.2 - 1):=h2
   omega
theorem SInv.done (h:SInv K l [] T I):BestOf l T∧(T.map Prod.snd).sum=l.length:=⟨⟨h.rise,h.many,fun x hx=>by
 rcases h.cover x hx with ⟨p,hp,_⟩ | h1
 · cases hp
 · exact h1⟩,by
 have:=h.sum
 simpa using this⟩
theorem SInv.few {P:List (Int×Nat)} (h:SInv K l P T I):I≤K*l.length∧T.length≤l.length:=by
 have h1:=h.idle
 have h2:=h.sum
 have h3:=len_le_sum fun d hd=>(h.many d hd).2
 omega
end
end Go.Proofs.YtcidobpbepeakaaGreat
