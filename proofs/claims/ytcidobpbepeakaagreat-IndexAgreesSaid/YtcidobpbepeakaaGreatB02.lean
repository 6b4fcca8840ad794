/- Texts of ours, joined: ListR WavPairs BestMath FindMath FindMore IdxMath IntApp FindRef FindI FindStep RmqMath TalMath ListMath. -/
import Derived.Test.YtcidobpbepeakaaGreatB01
import Derived.Deep.CutBlock
import Derived.Deep.CutRange
import Derived.Deep.AppendLies
import Derived.Deep.DrawnRows
import Derived.Deep.QuietTactic
import Derived.BigQuiet
set_option maxRecDepth 1000000
set_option maxHeartbeats 6400000
namespace Go.Proofs.YtcidobpbepeakaaGreat
open Go.RowKit
theorem wf_i64 {a:Int} (h1: -9223372036854775808≤a) (h2:a≤9223372036854775807):(Lit.int .i64 a).wf=true:=by
 simp [Lit.wf,IntKind.min,IntKind.max,IntKind.bits,IntKind.signed]
 omega
theorem Its.wf {w:World} {B n:Nat} {A:Option Addr} {V:Nat→Int} (h:Its w B A n V) {k:Nat} (hk:k < n):(Lit.int .i64 (V k)).wf=true:=by
 obtain ⟨_,_,_,_,h1,h2⟩:=h k hk
 exact wf_i64 h1 h2
theorem Its.small {w:World} {B n:Nat} {A:Option Addr} {V:Nat→Int} (h:Its w B A n V):∀i,i < n→ -9223372036854775808≤V i∧V i≤9223372036854775807:=fun i hi=>by
 obtain ⟨_,_,_,_,h1,h2⟩:=h i hi
 exact ⟨h1,h2⟩
theorem turn_w (a:Int) (t:Nat) (ht:0 < t) (hs:t≤4194304):∃j:Nat,wrap64 ((IntKind.u64.wrap a).tmod (t:Int))=(j:Int)∧j < t:=by
 have hw:0≤IntKind.u64.wrap a:=by rw [IntKind.wrap_u64];omega
 generalize IntKind.u64.wrap a=x at hw
 have e1:x.tmod (t:Int)=x%(t:Int):=Int.tmod_eq_emod_of_nonneg hw
 have h1:=Int.emod_nonneg x (show (t:Int)≠0 by omega)
 have h2:=Int.emod_lt_of_pos x (show (0:Int) < (t:Int) by omega)
 rw [e1]
 refine ⟨(x%(t:Int)).toNat,?_,by omega⟩
 unfold wrap64
 omega
end Go.Proofs.YtcidobpbepeakaaGreat
namespace Go.Proofs.YtcidobpbepeakaaGreat
open Go.ChangeShapes Go.WideShapes Go.ChangeAt Go.RowKit
section
variable {H:Type} {enc:TypeId×Value→H}
end
end Go.Proofs.YtcidobpbepeakaaGreat

namespace Go.Proofs.YtcidobpbepeakaaGreat
structure PairsOf (l:List Int) (D:List (Int×Nat)):Prop where
 rise:D.Pairwise (fun d e=>d.1 < e.1)
 many:∀d∈D,d.2=l.countP (fun x=>decide (x=d.1))∧0 < d.2
 all:∀x∈l,∃d∈D,d.1=x
theorem PairsOf.mem {l:List Int} {D:List (Int×Nat)} (h:PairsOf l D) (d:Int×Nat):d∈D↔d.1∈l∧d.2=l.countP (fun x=>decide (x=d.1)):=by
 constructor
 · intro hd
   obtain ⟨h1,h2⟩:=h.many d hd
   rw [h1,List.countP_pos_iff] at h2
   obtain ⟨x,hx,he⟩:=h2
   rw [decide_eq_true_iff] at he
   exact ⟨he▸hx,h1⟩
 · rintro ⟨h1,h2⟩
   obtain ⟨e,he,hx⟩:=h.all _ h1
   have h3:=(h.many e he).1
   rw [hx,←h2] at h3
   have:d=e:=Prod.ext hx.symm h3.symm
   rw [this]
   exact he
def sumP (D:List (Int×Nat)) (i:Nat):Nat:=((D.take i).map Prod.snd).sum
theorem sumP_succ {D:List (Int×Nat)} {i:Nat} {d:Int×Nat} (h:D[i]?=some d):sumP D (i+1)=sumP D i+d.2:=by
 unfold sumP
 rw [List.take_add_one,h,List.map_append,List.sum_append]
 show _+(d.2+0)=_
 rw [Nat.add_zero]
end Go.Proofs.YtcidobpbepeakaaGreat
namespace Go.Proofs.YtcidobpbepeakaaGreat
open Go.RowKit
theorem info_pair:(Tryz.prog.info? 60).map (fun i=>(i.zero,i.size,i.bytes))=some (some (.agg #[.int .i64 0,.int .i64 0]),2,16):=by kernel_rfl
def prcells (D:List (Int×Nat)):List Value:=D.flatMap fun d=>[.int .i64 d.1,.int .i64 ((d.2:Nat):Int)]
theorem prcells_append (D E:List (Int×Nat)):prcells (D++E)=prcells D++prcells E:=by unfold prcells;rw [List.flatMap_append]
theorem prcells_one (d:Int×Nat):prcells [d]=[.int .i64 d.1,.int .i64 ((d.2:Nat):Int)]:=rfl
theorem prcells_length:∀D:List (Int×Nat),(prcells D).length=D.length*2
 | []=>rfl
 | d::D=>by
   show (([.int .i64 d.1,.int .i64 ((d.2:Nat):Int)]:List Value)++prcells D).length=(D.length+1)*2
   rw [List.length_append,prcells_length D]
   show 2+D.length*2=_
   omega
theorem prcells_at:∀ {D:List (Int×Nat)} {i:Nat} {d:Int×Nat},D[i]?=some d→(prcells D)[i*2]?=some (.int .i64 d.1)∧(prcells D)[i*2+1]?=some (.int .i64 ((d.2:Nat):Int))
 | [],i,d,h=>by cases h
 | e::D,0,d,h=>by
   obtain rfl:e=d:=Option.some.inj h
   exact ⟨rfl,rfl⟩
 | e::D,i+1,d,h=>by
   have:=prcells_at (D:=D) (i:=i) (d:=d) h
   show (([.int .i64 e.1,.int .i64 ((e.2:Nat):Int)]:List Value)++prcells D)[(i+1)*2]?=_∧(([.int .i64 e.1,.int .i64 ((e.2:Nat):Int)]:List Value)++prcells D)[(i+1)*2+1]?=_
   rw [List.getElem?_append_right (by show 2≤_;omega),List.getElem?_append_right (by show 2≤_;omega)]
   show (prcells D)[(i+1)*2 - 2]?=_∧(prcells D)[(i+1)*2+1 - 2]?=_
   rw [show (i+1)*2 - 2=i*2 by omega,show (i+1)*2+1 - 2=i*2+1 by omega]
   exact this
def PrsR (w:World) (A:Option Addr) (D:List (Int×Nat)):Prop:=D.length≤4194304∧∀i d,D[i]?=some d→∃g o,A=some ⟨g,o,none⟩∧g < w.heap.size∧w.cell? ⟨g,o+i*2,none⟩=some (.int .i64 d.1)∧w.cell? ⟨g,o+i*2+1,none⟩=some (.int .i64 ((d.2:Nat):Int))∧d.2≤4194304
theorem PrsR.below {w w':World} {A:Option Addr} {D:List (Int×Nat)} (h:PrsR w A D) (hb:Below w.heap.size w w'):PrsR w' A D:=⟨h.1,fun i d hd=>by
 obtain ⟨g,o,h1,h2,h3,h4,h5⟩:=h.2 i d hd
 exact ⟨g,o,h1,Nat.lt_of_lt_of_le h2 hb.size,(World.cell?_of_block (hb.block g h2)).trans h3,(World.cell?_of_block (hb.block g h2)).trans h4,h5⟩⟩
theorem PrsR.of_own {w:World} {B:Nat} {v:Value} {D:List (Int×Nat)} (h:w.ownsRow B 60 2 v D.length (prcells D)) (hl:D.length≤4194304) (hm:∀d∈D,d.2≤4194304):∃A c,v=.slice A D.length c∧PrsR w A D:=by
 rcases owns_slice2 h with ⟨h0,e⟩ | ⟨g,c,e,_,hg⟩
 · have:D=[]:=List.length_eq_zero_iff.1 h0
   subst this
   exact ⟨none,0,e,hl,fun i d hd=>by cases hd⟩
 · subst e
   refine ⟨_,c,rfl,hl,fun i d hd=>⟨g,0,rfl,hg,?_,?_,hm d (List.mem_of_getElem? hd)⟩⟩
   · have h2:=h.cells rfl (i*2) _ (prcells_at hd).1
     rw [Addr.add_mid,Nat.zero_add] at h2
     rw [Nat.zero_add]
     exact h2
   · have h2:=h.cells rfl (i*2+1) _ (prcells_at hd).2
     rw [Addr.add_mid,Nat.zero_add] at h2
     rw [Nat.zero_add]
     exact h2
theorem refSameP_any (A A':Option Addr) (c c':Nat) (D:List (Int×Nat)) (w:World) (ho:PrsR w A D) (ho':PrsR w A' D):
    Calls Tryz.prog 18 #[.slice A D.length c,.slice A' D.length c'] w fun e w'=>e=.returned (.bool true)∧Below w.heap.size w w':=by
 have HO:=Lib.hid ho
 have HO':=Lib.hid ho'
 have hl:=ho.1
 obtain ⟨n,hn⟩:∃n,D.length=n:=⟨_,rfl⟩
 have HN:=Lib.hid hn
 rw [hn] at hl ⊢
 have g0:((n:Int) != (n:Int))=false:=by simp
 clear ho ho' hn
 go_enter Tryz.func18,Tryz.ntmps18
 go_wp2_with fail
 go_loopw [13] (fun v wr=>∃i:Nat,i≤n∧v=.int .i64 (i:Int)∧Hid (Below w.heap.size w wr)) (fun v _=>n - (intOf v).toNat)
 case atStart=>exact ⟨0,Nat.zero_le _,rfl,Lib.hid (Below.refl _ _)⟩
 case round=>
  obtain ⟨i,hi,rfl,hb⟩:=hrel
  by_cases hlt:i < n
  · have hlti:(i:Int) < (n:Int):=by omega
    obtain ⟨d,hd⟩:∃d,D[i]?=some d:=⟨_,List.getElem?_eq_getElem (by rw [HN.out];exact hlt)⟩
    obtain ⟨g,o,rfl,_,c1',c2',_⟩:=(HO.out.below hb.out).2 i d hd
    obtain ⟨g',o',rfl,_,c3',c4',_⟩:=(HO'.out.below hb.out).2 i d hd
    have HB2:∀t,Hid (Below w.heap.size w (wr.drewN t)):=fun t=>Lib.hid (below_drewN' hb.out t)
    obtain ⟨x,y⟩:=d
    have c1:wr.cell? ⟨g,o+i*2,none⟩=some (.int .i64 x):=c1'
    have c2:wr.cell? ⟨g,o+i*2+1,none⟩=some (.int .i64 (y:Int)):=c2'
    have c3:wr.cell? ⟨g',o'+i*2,none⟩=some (.int .i64 x):=c3'
    have c4:wr.cell? ⟨g',o'+i*2+1,none⟩=some (.int .i64 (y:Int)):=c4'
    clear hd hb c1' c2' c3' c4'
    go_wp2_with fail
    go_quiet (fail)
    go_wp2_with fail
    go_roundw
    case rel=>exact ⟨i+1,by omega,by go_num,HB2 _⟩
    case measure=>simp [intOf];omega
  · have hge:¬(i:Int) < (n:Int):=by omega
    go_wp2_with fail
    go_ret
    exact ⟨rfl,hb.out⟩
end Go.Proofs.YtcidobpbepeakaaGreat

namespace Go.Proofs.YtcidobpbepeakaaGreat
def Bet (d e:Int×Nat):Prop:=e.2 < d.2∨(e.2=d.2∧d.1 < e.1)
theorem Bet.trans {d e f:Int×Nat} (h:Bet d e) (h':Bet e f):Bet d f:=by
 unfold Bet at*
 omega
theorem Bet.no {d:Int×Nat} (h:Bet d d):False:=by
 unfold Bet at h
 omega
theorem Bet.not {d e:Int×Nat} (h:Bet d e) (h':Bet e d):False:=(h.trans h').no
theorem bet_one:∀ {D D':List (Int×Nat)},D.Pairwise Bet→D'.Pairwise Bet→(∀d,d∈D↔d∈D')→D=D'
 | [],[],_,_,_=>rfl
 | [],e::D',_,_,h=>by have:=(h e).2 (List.mem_cons_self ..);cases this
 | d::D,[],_,_,h=>by have:=(h d).1 (List.mem_cons_self ..);cases this
 | d::D,e::D',h1,h2,h=>by
   rw [List.pairwise_cons] at h1 h2
   have hde:d=e:=by
    rcases List.mem_cons.1 ((h d).1 (List.mem_cons_self ..)) with g | g
    · exact g
    · have g1:=h2.1 d g
      rcases List.mem_cons.1 ((h e).2 (List.mem_cons_self ..)) with g' | g'
      · exact g'.symm
      · exact (g1.not (h1.1 e g')).elim
   subst hde
   rw [bet_one h1.2 h2.2 fun x=>⟨fun hx=>by
    rcases List.mem_cons.1 ((h x).1 (List.mem_cons_of_mem _ hx)) with g | g
    · rw [g] at hx
      exact (h1.1 d hx).no.elim
    · exact g,fun hx=>by
    rcases List.mem_cons.1 ((h x).2 (List.mem_cons_of_mem _ hx)) with g | g
    · rw [g] at hx
      exact (h2.1 d hx).no.elim
    · exact g⟩]
structure BestOf (l:List Int) (R:List (Int×Nat)):Prop where
 rise:R.Pairwise Bet
 many:∀d∈R,d.2=l.countP (fun x=>decide (x=d.1))∧0 < d.2
 all:∀x∈l,∃d∈R,d.1=x
theorem BestOf.mem {l:List Int} {D:List (Int×Nat)} (h:BestOf l D) (d:Int×Nat):d∈D↔d.1∈l∧d.2=l.countP (fun x=>decide (x=d.1)):=by
 constructor
 · intro hd
   obtain ⟨h1,h2⟩:=h.many d hd
   rw [h1,List.countP_pos_iff] at h2
   obtain ⟨x,hx,he⟩:=h2
   rw [decide_eq_true_iff] at he
   exact ⟨he▸hx,h1⟩
 · rintro ⟨h1,h2⟩
   obtain ⟨e,he,hx⟩:=h.all _ h1
   have h3:=(h.many e he).1
   rw [hx,←h2] at h3
   have:d=e:=Prod.ext hx.symm h3.symm
   rw [this]
   exact he
structure RkOf (E R:List (Int×Nat)):Prop where
 rise:R.Pairwise Bet
 mem:∀d,d∈R↔d∈E
 len:R.length=E.length
theorem RkOf.none:RkOf [] []:=⟨List.Pairwise.nil,fun _=>Iff.rfl,rfl⟩
theorem RkOf.ins {E R:List (Int×Nat)} {x:Int×Nat} {p:Nat} (h:RkOf E R) (hp:p≤R.length) (hx:∀d∈E,d.1 < x.1) (hlow:∀j d,j < p→R[j]?=some d→x.2≤d.2) (hup:∀d,R[p]?=some d→d.2 < x.2):RkOf (E++[x]) (R.take p++x::R.drop p):=by
 have hr:=h.rise
 have hsplit:R.take p++R.drop p=R:=List.take_append_drop p R
 have h1:∀d∈R.take p,Bet d x:=fun d hd=>by
  obtain ⟨j,hj⟩:=List.getElem?_of_mem hd
  have hjp:j < p:=by
   have:=(List.getElem?_eq_some_iff.1 hj).1
   rw [List.length_take] at this
   omega
  rw [List.getElem?_take_of_lt hjp] at hj
  have g1:=hlow j d hjp hj
  have g2:=hx d ((h.mem d).1 (List.mem_of_getElem? hj))
  unfold Bet
  omega
 have h2:∀d∈R.drop p,Bet x d:=fun d hd=>by
  obtain ⟨j,hj⟩:=List.getElem?_of_mem hd
  rw [List.getElem?_drop] at hj
  have hpl:p < R.length:=by
   have:=(List.getElem?_eq_some_iff.1 hj).1
   omega
  have g0:=hup R[p] (List.getElem?_eq_getElem hpl)
  rcases Nat.eq_zero_or_pos j with e | e
  · subst e
    rw [Nat.add_zero,List.getElem?_eq_getElem hpl] at hj
    injection hj with hj
    rw [hj] at g0
    exact .inl g0
  · rw [List.pairwise_iff_getElem] at hr
    have hj2:=(List.getElem?_eq_some_iff.1 hj).1
    have g1:=hr p (p+j) hpl hj2 (by omega)
    rw [List.getElem?_eq_getElem hj2] at hj
    injection hj with hj
    rw [hj] at g1
    unfold Bet at*
    omega
 refine ⟨?_,fun d=>?_,?_⟩
 · rw [List.pairwise_append]
   rw [←hsplit,List.pairwise_append] at hr
   refine ⟨hr.1,List.pairwise_cons.2 ⟨h2,hr.2.1⟩,fun d hd e he=>?_⟩
   rcases List.mem_cons.1 he with g | g
   · rw [g]
     exact h1 d hd
   · exact hr.2.2 d hd e g
 · rw [List.mem_append,List.mem_append,List.mem_cons,List.mem_singleton,←h.mem]
   have:d∈R↔d∈R.take p∨d∈R.drop p:=by rw [←List.mem_append,hsplit]
   rw [this]
   constructor
   · rintro (g | g | g)
     · exact .inl (.inl g)
     · exact .inr g
     · exact .inl (.inr g)
   · rintro ((g | g) | g)
     · exact .inl g
     · exact .inr (.inr g)
     · exact .inr (.inl g)
 · rw [List.length_append,List.length_cons,List.length_append,←h.len,List.length_take,List.length_drop]
   show min p R.length+(R.length - p+1)=R.length+1
   omega
theorem set_mid {α:Type} (A B:List α) (y z:α):(A++y::B).set A.length z=A++z::B:=by
 rw [List.set_append_right _ _ (Nat.le_refl _),Nat.sub_self]
 rfl
theorem shift_down {R:List (Int×Nat)} {q:Nat} {d y:Int×Nat} (h:R[q]?=some d):(R.take (q+1)++y::R.drop (q+1)).set (q+1) d=R.take q++d::R.drop q:=by
 obtain ⟨hq,e⟩:=List.getElem?_eq_some_iff.1 h
 have h1:(R.take (q+1)).length=q+1:=by rw [List.length_take];omega
 have h2:=set_mid (R.take (q+1)) (R.drop (q+1)) y d
 rw [h1] at h2
 rw [h2,List.take_add_one,h,List.append_assoc]
 have h3:R.drop q=d::R.drop (q+1):=by rw [←e];exact List.drop_eq_getElem_cons hq
 rw [h3]
 rfl
theorem shift_put {R:List (Int×Nat)} {q:Nat} (x y:Int×Nat) (h:q≤R.length):(R.take q++y::R.drop q).set q x=R.take q++x::R.drop q:=by
 have h1:(R.take q).length=q:=by rw [List.length_take];omega
 have h2:=set_mid (R.take q) (R.drop q) y x
 rw [h1] at h2
 exact h2
theorem shift_len {R:List (Int×Nat)} {q:Nat} (y:Int×Nat) (h:q≤R.length):(R.take q++y::R.drop q).length=R.length+1:=by
 rw [List.length_append,List.length_cons,List.length_take,List.length_drop]
 omega
theorem shift_low {R:List (Int×Nat)} {q:Nat} (y:Int×Nat) {d:Int×Nat} (h:R[q]?=some d):(R.take (q+1)++y::R.drop (q+1))[q]?=some d:=by
 have hq:=(List.getElem?_eq_some_iff.1 h).1
 rw [List.getElem?_append_left (by rw [List.length_take];omega),List.getElem?_take_of_lt (by omega)]
 exact h
theorem shift_at {R:List (Int×Nat)} {q:Nat} (y:Int×Nat) (h:q≤R.length):(R.take q++y::R.drop q)[q]?=some y:=by
 rw [List.getElem?_append_right (by rw [List.length_take];omega),List.length_take,show q - min q R.length=0 by omega]
 rfl
theorem prcells_set2:∀(D:List (Int×Nat)) (j:Nat) (x:Int×Nat),((prcells D).set (j*2) (.int .i64 x.1)).set (j*2+1) (.int .i64 ((x.2:Nat):Int))=prcells (D.set j x)
 | [],_,_=>rfl
 | d::D,0,x=>rfl
 | d::D,j+1,x=>by
   have ih:=prcells_set2 D j x
   show (((.int .i64 d.1)::(.int .i64 ((d.2:Nat):Int))::prcells D:List Value).set ((j+1)*2) _).set ((j+1)*2+1) _=((.int .i64 d.1)::(.int .i64 ((d.2:Nat):Int))::prcells (D.set j x):List Value)
   rw [show (j+1)*2+1=(j*2+1)+1+1 by omega,show (j+1)*2=j*2+1+1 by omega]
   show ((.int .i64 d.1)::(.int .i64 ((d.2:Nat):Int))::(((prcells D).set (j*2) _).set (j*2+1) _):List Value)=_
   rw [ih]
end Go.Proofs.YtcidobpbepeakaaGreat

namespace Go.Proofs.YtcidobpbepeakaaGreat
def StN (V:Nat→Int) (n:Nat) (P:Nat→Int) (m a:Nat):Prop:=a+m≤n∧∀i,i < m→V (a+i)=P i
noncomputable def stB (V:Nat→Int) (n:Nat) (P:Nat→Int) (m a:Nat):Bool:=@decide (StN V n P m a) (Classical.propDecidable _)
theorem stB_iff {V:Nat→Int} {n:Nat} {P:Nat→Int} {m a:Nat}:stB V n P m a=true↔StN V n P m a:=@decide_eq_true_iff _ (Classical.propDecidable _)
noncomputable def plsF (V:Nat→Int) (n:Nat) (P:Nat→Int) (m:Nat):Nat→List Int
 | 0=>[]
 | k+1=>plsF V n P m k++(if 0 < m∧stB V n P m k=true then [(k:Int)] else [])
theorem plsF_hit {V:Nat→Int} {n:Nat} {P:Nat→Int} {m k:Nat} (h:0 < m∧stB V n P m k=true):plsF V n P m (k+1)=plsF V n P m k++[(k:Int)]:=by
 show plsF V n P m k++_=_
 rw [if_pos h]
theorem plsF_miss {V:Nat→Int} {n:Nat} {P:Nat→Int} {m k:Nat} (h:¬(0 < m∧stB V n P m k=true)):plsF V n P m (k+1)=plsF V n P m k:=by
 show plsF V n P m k++_=_
 rw [if_neg h,List.append_nil]
theorem plsF_len (V:Nat→Int) (n:Nat) (P:Nat→Int) (m:Nat):∀k,(plsF V n P m k).length≤k
 | 0=>Nat.le_refl _
 | k+1=>by
   have:=plsF_len V n P m k
   by_cases h:0 < m∧stB V n P m k=true
   · rw [plsF_hit h,List.length_append]
     show _+1≤_
     omega
   · rw [plsF_miss h]
     omega
theorem mem_plsF {V:Nat→Int} {n:Nat} {P:Nat→Int} {m:Nat} {x:Int}:∀ {k},x∈plsF V n P m k↔∃a:Nat,a < k∧0 < m∧StN V n P m a∧x=(a:Int)
 | 0=>⟨fun h=>(by cases h),fun ⟨a,ha,_⟩=>absurd ha (Nat.not_lt_zero a)⟩
 | k+1=>by
   have ih:=mem_plsF (V:=V) (n:=n) (P:=P) (m:=m) (x:=x) (k:=k)
   by_cases h:0 < m∧stB V n P m k=true
   · rw [plsF_hit h,List.mem_append,ih,List.mem_singleton]
     constructor
     · rintro (⟨a,h1,h2⟩ | h1)
       · exact ⟨a,by omega,h2⟩
       · exact ⟨k,by omega,h.1,stB_iff.1 h.2,h1⟩
     · rintro ⟨a,h1,h2,h3,h4⟩
       by_cases e:a=k
       · exact .inr (by rw [h4,e])
       · exact .inl ⟨a,by omega,h2,h3,h4⟩
   · rw [plsF_miss h,ih]
     constructor
     · rintro ⟨a,h1,h2⟩
       exact ⟨a,by omega,h2⟩
     · rintro ⟨a,h1,h2,h3,h4⟩
       by_cases e:a=k
       · subst e
         exact absurd ⟨h2,stB_iff.2 h3⟩ h
       · exact ⟨a,by omega,h2,h3,h4⟩
theorem plsF_none (V:Nat→Int) (n:Nat) (P:Nat→Int):∀k,plsF V n P 0 k=[]
 | 0=>rfl
 | k+1=>by rw [plsF_miss (fun h=>absurd h.1 (Nat.lt_irrefl 0)),plsF_none V n P k]
theorem plsF_rise (V:Nat→Int) (n:Nat) (P:Nat→Int) (m:Nat):∀k,(plsF V n P m k).Pairwise (· < ·)
 | 0=>List.Pairwise.nil
 | k+1=>by
   by_cases h:0 < m∧stB V n P m k=true
   · rw [plsF_hit h,List.pairwise_append]
     refine ⟨plsF_rise V n P m k,List.pairwise_singleton _ _,fun x hx y hy=>?_⟩
     obtain ⟨a,h1,_,_,h4⟩:=mem_plsF.1 hx
     rw [List.mem_singleton] at hy
     rw [h4,hy]
     omega
   · rw [plsF_miss h]
     exact plsF_rise V n P m k
def rngF (f:Nat→Bool):Nat→Nat×Nat
 | 0=>(0,0)
 | k+1=>if f k=true then (if (rngF f k).2=0 then k else (rngF f k).1,k+1) else rngF f k
theorem rngF_first {f:Nat→Bool} {k:Nat} (h:f k=true) (h0:(rngF f k).2=0):rngF f (k+1)=(k,k+1):=by
 unfold rngF
 rw [if_pos h,if_pos h0]
theorem rngF_more {f:Nat→Bool} {k:Nat} (h:f k=true) (h0:(rngF f k).2≠0):rngF f (k+1)=((rngF f k).1,k+1):=by
 rw [rngF,if_pos h,if_neg h0]
theorem rngF_miss {f:Nat→Bool} {k:Nat} (h:f k=false):rngF f (k+1)=rngF f k:=by
 rw [rngF,if_neg (by rw [h];decide)]
theorem rngF_le (f:Nat→Bool):∀k,(rngF f k).1≤(rngF f k).2∧(rngF f k).2≤k
 | 0=>⟨Nat.le_refl _,Nat.le_refl _⟩
 | k+1=>by
   have ih:=rngF_le f k
   cases hf:f k with
   | false=>rw [rngF_miss hf];omega
   | true=>
     by_cases h0:(rngF f k).2=0
     · rw [rngF_first hf h0]
       exact ⟨by omega,by omega⟩
     · rw [rngF_more hf h0]
       exact ⟨by show (rngF f k).1≤k+1;omega,by omega⟩
theorem rngF_lt {f:Nat→Bool}:∀ {k},(rngF f k).2≠0→(rngF f k).1 < (rngF f k).2
 | 0,h=>absurd rfl h
 | k+1,h=>by
   have hle:=rngF_le f k
   cases hf:f k with
   | false=>
     rw [rngF_miss hf] at h ⊢
     exact rngF_lt h
   | true=>
     by_cases h0:(rngF f k).2=0
     · rw [rngF_first hf h0]
       exact Nat.lt_succ_self _
     · rw [rngF_more hf h0]
       show (rngF f k).1 < k+1
       omega
theorem rngF_all {f:Nat→Bool}:∀ {k:Nat},(∀j,j < k→f j=true)→rngF f k=(0,k)
 | 0,_=>rfl
 | k+1,h=>by
   have ih:=rngF_all (f:=f) (k:=k) (fun j hj=>h j (by omega))
   by_cases h0:(rngF f k).2=0
   · rw [rngF_first (h k (by omega)) h0]
     rw [ih] at h0
     have h0:k=0:=h0
     rw [h0]
   · rw [rngF_more (h k (by omega)) h0,ih]
theorem rngF_congr {f g:Nat→Bool}:∀ {k:Nat},(∀j,j < k→f j=g j)→rngF f k=rngF g k
 | 0,_=>rfl
 | k+1,h=>by
   rw [rngF,rngF,rngF_congr (fun j hj=>h j (by omega)),h k (by omega)]
def OnceT (T:Nat→Int) (n:Nat):Prop:=0 < n∧∀i,i+1 < n→T i≠T (n - 1)
end Go.Proofs.YtcidobpbepeakaaGreat

namespace Go.Proofs.YtcidobpbepeakaaGreat
open Pl (cnt cnt_succ cnt_congr)
theorem StN.between {T:Nat→Int} {n:Nat} {P:Nat→Int} {m a b c:Nat} (ha:StN T n P m a) (hc:StN T n P m c) (h1:SLess T n a b) (h2:SLess T n b c):StN T n P m b:=by
 obtain ⟨x,hx1,hx2,hx3,hx4⟩:=h1
 obtain ⟨y,hy1,hy2,hy3,hy4⟩:=h2
 obtain ⟨ha1,ha2⟩:=ha
 obtain ⟨hc1,hc2⟩:=hc
 by_cases hxm:m≤x
 · exact ⟨by omega,fun i hi=>by rw [←hx1 i (by omega),ha2 i hi]⟩
 · by_cases hym:m≤y
   · exact ⟨by omega,fun i hi=>by rw [hy1 i (by omega),hc2 i hi]⟩
   · exfalso
     have e1:T (a+x)=P x:=ha2 x (by omega)
     have e2:T (c+y)=P y:=hc2 y (by omega)
     have l1:T (a+x) < T (b+x):=hx4.resolve_left (by omega)
     rcases Nat.lt_trichotomy y x with h | h | h
     · have e3:T (a+y)=T (b+y):=hx1 y h
       have e4:T (a+y)=P y:=ha2 y (by omega)
       rcases hy4 with h4 | h4
       · omega
       · omega
     · subst h
       rcases hy4 with h4 | h4
       · omega
       · omega
     · have e3:T (b+x)=T (c+x):=hy1 x h
       have e4:T (c+x)=P x:=hc2 x (by omega)
       omega
theorem stB_between {T:Nat→Int} {n:Nat} {P:Nat→Int} {m:Nat} {s:Nat→Nat} (hs:IsSA T n s) {i j k:Nat} (hij:i≤j) (hjk:j≤k) (hk:k < n) (hi:stB T n P m (s i)=true) (hk2:stB T n P m (s k)=true):stB T n P m (s j)=true:=by
 rcases Nat.lt_or_eq_of_le hij with h1 | h1
 · rcases Nat.lt_or_eq_of_le hjk with h2 | h2
   · exact stB_iff.2 (StN.between (stB_iff.1 hi) (stB_iff.1 hk2) (hs.2 i j h1 (by omega)) (hs.2 j k h2 hk))
   · rw [h2];exact hk2
 · rw [←h1];exact hi
theorem rngF_side {f:Nat→Bool} {n:Nat} (hf:∀i j k,i≤j→j≤k→k < n→f i=true→f k=true→f j=true):∀k,k≤n→
    (rngF f k).2 - (rngF f k).1=cnt f k∧(∀j,j < k→(f j=true↔(rngF f k).1≤j∧j < (rngF f k).2))
 | 0,_=>⟨rfl,fun j hj=>absurd hj (Nat.not_lt_zero j)⟩
 | k+1,hk=>by
   obtain ⟨h1,h2⟩:=rngF_side hf k (by omega)
   have hle:=rngF_le f k
   cases hfk:f k with
   | false=>
     rw [rngF_miss hfk,cnt_succ,hfk]
     refine ⟨by rw [h1];rfl,fun j hj=>?_⟩
     by_cases e:j=k
     · subst e
       rw [hfk]
       constructor
       · intro h;cases h
       · intro h;omega
     · exact h2 j (by omega)
   | true=>
     by_cases h0:(rngF f k).2=0
     · rw [rngF_first hfk h0,cnt_succ,hfk,if_pos rfl,←h1]
       refine ⟨by show k+1 - k=_;omega,fun j hj=>?_⟩
       by_cases e:j=k
       · subst e
         exact ⟨fun _=>⟨Nat.le_refl _,Nat.lt_succ_self _⟩,fun _=>hfk⟩
       · rw [h2 j (by omega)]
         show _↔k≤j∧j < k+1
         omega
     · have hlt:(rngF f k).1 < (rngF f k).2∨¬(rngF f k).1 < (rngF f k).2:=Classical.em _
       have hpos:(rngF f k).1 < (rngF f k).2:=rngF_lt h0
       have hlast:f ((rngF f k).2 - 1)=true:=(h2 _ (by omega)).2 ⟨by omega,by omega⟩
       have hend:(rngF f k).2=k:=by
        by_cases e:(rngF f k).2=k
        · exact e
        · have:=hf _ (rngF f k).2 k (by omega) hle.2 (by omega) hlast hfk
          have:=((h2 _ (by omega)).1 this).2
          omega
       rw [rngF_more hfk h0,cnt_succ,hfk,if_pos rfl,←h1]
       refine ⟨by show k+1 - (rngF f k).1=_;omega,fun j hj=>?_⟩
       by_cases e:j=k
       · subst e
         exact ⟨fun _=>⟨by show (rngF f j).1≤j;omega,Nat.lt_succ_self _⟩,fun _=>hfk⟩
       · rw [h2 j (by omega),hend]
         show _↔(rngF f k).1≤j∧j < k+1
         omega
theorem plsF_cnt (T:Nat→Int) (n:Nat) (P:Nat→Int) {m:Nat} (hm:0 < m):∀k,(plsF T n P m k).length=cnt (stB T n P m) k
 | 0=>rfl
 | k+1=>by
   rw [cnt_succ,←plsF_cnt T n P hm k]
   by_cases h:stB T n P m k=true
   · rw [plsF_hit ⟨hm,h⟩,if_pos h,List.length_append]
     rfl
   · rw [plsF_miss (fun g=>h g.2),if_neg h]
     rfl
theorem rngF_places {T:Nat→Int} {n:Nat} {P:Nat→Int} {m:Nat} {s:Nat→Nat} (hs:IsSA T n s) (hm:0 < m):(rngF (fun i=>stB T n P m (s i)) n).2 - (rngF (fun i=>stB T n P m (s i)) n).1=(plsF T n P m n).length:=by
 rw [(rngF_side (f:=fun i=>stB T n P m (s i)) (n:=n) (fun i j k h1 h2 h3 h4 h5=>stB_between hs h1 h2 h3 h4 h5) n (Nat.le_refl _)).1,plsF_cnt T n P hm]
 exact cnt_bij ⟨hs.1,fun i j hi hj he=>hs.inj hi hj he⟩ (stB T n P m)
end Go.Proofs.YtcidobpbepeakaaGreat

namespace Go.Proofs.YtcidobpbepeakaaGreat
open Pl (cnt cnt_congr cnt_zero cnt_le cnt_add)
def occB (x:Sec) (m:Nat) (p:Nat→Nat) (i:Nat):Bool:=decide (i+m≤x.n)&&decide (bstr (fun k=>x.V (i+k)) m=bstr p m)
theorem occB_out {x:Sec} {m:Nat} {p:Nat→Nat} {i:Nat} (h:¬i+m≤x.n):occB x m p i=false:=by unfold occB;rw [decide_eq_false h];rfl
theorem occB_yes {x:Sec} {m:Nat} {p:Nat→Nat} {i:Nat} (h:i+m≤x.n) (e:bstr (fun k=>x.V (i+k)) m=bstr p m):occB x m p i=true:=by unfold occB;rw [decide_eq_true h,decide_eq_true e];rfl
theorem occB_no {x:Sec} {m:Nat} {p:Nat→Nat} {i:Nat} (e:¬bstr (fun k=>x.V (i+k)) m=bstr p m):occB x m p i=false:=by unfold occB;rw [decide_eq_false e,Bool.and_false]
def tmD (x:Sec) (m:Nat) (p:Nat→Nat):Nat:=cnt (occB x m p) (x.n+1)
theorem tmD_le (x:Sec) (m:Nat) (p:Nat→Nat):tmD x m p≤x.n+1:=cnt_le _ _
theorem cnt_end {f:Nat→Bool} {a b:Nat} (h:a≤b) (hf:∀i,a≤i→i < b→f i=false):cnt f b=cnt f a:=by
 obtain ⟨d,rfl⟩:∃d,b=a+d:=⟨b - a,by omega⟩
 rw [cnt_add,cnt_zero (f:=fun j=>f (a+j)) fun j hj=>hf (a+j) (by omega) (by omega),Nat.add_zero]
theorem tmD_end {x:Sec} {m:Nat} {p:Nat→Nat} {i:Nat} (h:¬i+m≤x.n) (hi:i≤x.n+1):tmD x m p=cnt (occB x m p) i:=cnt_end hi fun j h1 _=>occB_out (by omega)
def tmA (S:List Sec) (m:Nat) (p:Nat→Nat) (d:Nat):Nat:=match S[d]? with
 | some x=>tmD x m p
 | none=>0
theorem tmA_at {S:List Sec} {m:Nat} {p:Nat→Nat} {d:Nat} {x:Sec} (h:S[d]?=some x):tmA S m p d=tmD x m p:=by unfold tmA;rw [h]
def tmW (S:List Sec) (m:Nat) (p:Nat→Nat):Nat→Nat
 | 0=>0
 | k+1=>tmW S m p k+tmA S m p k
def prW (S:List Sec) (m:Nat) (p:Nat→Nat):Nat→List (Int×Nat)
 | 0=>[]
 | k+1=>if 0 < tmA S m p k then prW S m p k++[((k:Int),tmA S m p k)] else prW S m p k
theorem prW_hit {S:List Sec} {m:Nat} {p:Nat→Nat} {k:Nat} (h:0 < tmA S m p k):prW S m p (k+1)=prW S m p k++[((k:Int),tmA S m p k)]:=if_pos h
theorem prW_miss {S:List Sec} {m:Nat} {p:Nat→Nat} {k:Nat} (h:¬0 < tmA S m p k):prW S m p (k+1)=prW S m p k:=if_neg h
theorem prW_le (S:List Sec) (m:Nat) (p:Nat→Nat):∀k,(prW S m p k).length≤k
 | 0=>Nat.le_refl _
 | k+1=>by
   have ih:=prW_le S m p k
   by_cases h:0 < tmA S m p k
   · rw [prW_hit h,List.length_append]
     show _+1≤_
     omega
   · rw [prW_miss h]
     omega
theorem mem_prW {S:List Sec} {m:Nat} {p:Nat→Nat} {d:Int×Nat}:∀ {k:Nat},d∈prW S m p k↔∃j:Nat,j < k∧0 < tmA S m p j∧d=((j:Int),tmA S m p j)
 | 0=>⟨fun h=>(by cases h),fun ⟨_,h,_⟩=>absurd h (Nat.not_lt_zero _)⟩
 | k+1=>by
   by_cases h:0 < tmA S m p k
   · rw [prW_hit h,List.mem_append,mem_prW (k:=k),List.mem_singleton]
     constructor
     · rintro (⟨j,h1,h2⟩ | h1)
       · exact ⟨j,by omega,h2⟩
       · exact ⟨k,by omega,h,h1⟩
     · rintro ⟨j,h1,h2,h3⟩
       by_cases e:j=k
       · subst e
         exact .inr h3
       · exact .inl ⟨j,by omega,h2,h3⟩
   · rw [prW_miss h,mem_prW (k:=k)]
     constructor
     · rintro ⟨j,h1,h2⟩
       exact ⟨j,by omega,h2⟩
     · rintro ⟨j,h1,h2,h3⟩
       by_cases e:j=k
       · subst e
         exact absurd h2 h
       · exact ⟨j,by omega,h2,h3⟩
theorem prW_rise (S:List Sec) (m:Nat) (p:Nat→Nat):∀k,(prW S m p k).Pairwise (fun d e=>d.1 < e.1)
 | 0=>List.Pairwise.nil
 | k+1=>by
   by_cases h:0 < tmA S m p k
   · rw [prW_hit h,List.pairwise_append]
     refine ⟨prW_rise S m p k,List.pairwise_singleton _ _,fun d hd e he=>?_⟩
     obtain rfl:=List.mem_singleton.1 he
     obtain ⟨j,h1,_,rfl⟩:=mem_prW.1 hd
     show (j:Int) < (k:Int)
     omega
   · rw [prW_miss h]
     exact prW_rise S m p k
theorem prW_sum (S:List Sec) (m:Nat) (p:Nat→Nat):∀k,((prW S m p k).map Prod.snd).sum=tmW S m p k
 | 0=>rfl
 | k+1=>by
   have ih:=prW_sum S m p k
   show _=tmW S m p k+tmA S m p k
   by_cases h:0 < tmA S m p k
   · rw [prW_hit h,List.map_append,List.sum_append,ih]
     simp
   · rw [prW_miss h,ih]
     omega
def plD (f:Nat→Bool) (d:Nat):Nat→List (Int×Nat)
 | 0=>[]
 | i+1=>if f i then plD f d i++[((d:Int),i)] else plD f d i
theorem plD_hit {f:Nat→Bool} {d i:Nat} (h:f i=true):plD f d (i+1)=plD f d i++[((d:Int),i)]:=if_pos h
theorem plD_miss {f:Nat→Bool} {d i:Nat} (h:f i=false):plD f d (i+1)=plD f d i:=by
 show (if f i=true then _ else _)=_
 rw [h]
 rfl
theorem plD_len (f:Nat→Bool) (d:Nat):∀i,(plD f d i).length=cnt f i
 | 0=>rfl
 | i+1=>by
   have ih:=plD_len f d i
   show _=cnt f i+(if f i then 1 else 0)
   rcases e:f i with _ | _
   · rw [plD_miss e,ih]
     rfl
   · rw [plD_hit e,List.length_append,ih]
     rfl
theorem plD_end {f:Nat→Bool} {d a:Nat}:∀ {b:Nat},a≤b→(∀i,a≤i→i < b→f i=false)→plD f d b=plD f d a
 | 0,h,_=>by
   obtain rfl:a=0:=by omega
   rfl
 | b+1,h,hf=>by
   by_cases e:a=b+1
   · rw [e]
   · rw [plD_miss (hf b (by omega) (by omega))]
     exact plD_end (by omega) fun i h1 h2=>hf i h1 (by omega)
theorem plD_mem {f:Nat→Bool} {d:Nat} {z:Int×Nat}:∀ {i:Nat},z∈plD f d i→z.1=(d:Int)∧z.2 < i
 | 0,h=>by cases h
 | i+1,h=>by
   rcases e:f i with _ | _
   · rw [plD_miss e] at h
     have:=plD_mem h
     exact ⟨this.1,by omega⟩
   · rw [plD_hit e,List.mem_append,List.mem_singleton] at h
     rcases h with h | h
     · have:=plD_mem h
       exact ⟨this.1,by omega⟩
     · rw [h]
       exact ⟨rfl,Nat.lt_succ_self _⟩
def plA (S:List Sec) (m:Nat) (p:Nat→Nat) (d:Nat):List (Int×Nat):=match S[d]? with
 | some x=>plD (occB x m p) d (x.n+1)
 | none=>[]
theorem plA_at {S:List Sec} {m:Nat} {p:Nat→Nat} {d:Nat} {x:Sec} (h:S[d]?=some x):plA S m p d=plD (occB x m p) d (x.n+1):=by unfold plA;rw [h]
theorem plA_len (S:List Sec) (m:Nat) (p:Nat→Nat) (d:Nat):(plA S m p d).length=tmA S m p d:=by
 rcases h:S[d]? with _ | x
 · unfold plA tmA
   rw [h]
   rfl
 · rw [plA_at h,tmA_at h,plD_len]
   rfl
theorem plA_doc {S:List Sec} {m:Nat} {p:Nat→Nat} {d:Nat} {z:Int×Nat} (hz:z∈plA S m p d):z.1=(d:Int):=by
 rcases h:S[d]? with _ | x
 · unfold plA at hz
   rw [h] at hz
   cases hz
 · rw [plA_at h] at hz
   exact (plD_mem hz).1
def plW (S:List Sec) (m:Nat) (p:Nat→Nat):Nat→List (Int×Nat)
 | 0=>[]
 | k+1=>plW S m p k++plA S m p k
theorem plW_len (S:List Sec) (m:Nat) (p:Nat→Nat):∀k,(plW S m p k).length=tmW S m p k
 | 0=>rfl
 | k+1=>by
   show (plW S m p k++plA S m p k).length=tmW S m p k+tmA S m p k
   rw [List.length_append,plW_len S m p k,plA_len]
theorem plW_doc (S:List Sec) (m:Nat) (p:Nat→Nat) (d:Nat):∀k,(plW S m p k).countP (fun z=>decide (z.1=(d:Int)))=if d < k then tmA S m p d else 0
 | 0=>by rw [if_neg (Nat.not_lt_zero d)];rfl
 | k+1=>by
   show (plW S m p k++plA S m p k).countP _=_
   rw [List.countP_append,plW_doc S m p d k]
   by_cases e:d=k
   · subst e
     rw [if_neg (Nat.lt_irrefl _),if_pos (Nat.lt_succ_self _),Nat.zero_add,←plA_len,List.countP_eq_length]
     intro z hz
     exact decide_eq_true (plA_doc hz)
   · rw [List.countP_eq_zero.2 fun z hz=>by
      rw [decide_eq_true_iff,plA_doc hz]
      omega]
     by_cases h:d < k
     · rw [if_pos h,if_pos (by omega)]
       rfl
     · rw [if_neg h,if_neg (by omega)]
theorem tmW_le (S:List Sec) (m:Nat) (p:Nat→Nat):∀k,k≤S.length→tmW S m p k≤offT S k
 | 0,_=>Nat.zero_le _
 | k+1,h=>by
   obtain ⟨x,hx⟩:∃x,S[k]?=some x:=⟨_,List.getElem?_eq_getElem (by omega)⟩
   have ih:=tmW_le S m p k (by omega)
   have h1:=tmD_le x m p
   show tmW S m p k+tmA S m p k≤_
   rw [tmA_at hx,offT_succ hx]
   omega
def patI (k:Nat) (p:Nat→Nat):Nat→Int:=fun j=>((k+p j:Nat):Int)
theorem stB_occ {S:List Sec} (hS:∀x∈S,∀k,k < x.n→x.V k < 256) {m:Nat} {p:Nat→Nat} (hp:∀k,k < m→p k < 256) {d o:Nat} {x:Sec} (h:S[d]?=some x) (ho:o≤x.n):
    stB (symI S) (lenT S) (patI S.length p) m (offT S d+o)=occB x m p o:=by
 have hin:=offT_in h
 have hdS:=(List.getElem?_eq_some_iff.1 h).1
 have hx:=hS x (List.mem_of_getElem? h)
 rw [Bool.eq_iff_iff,stB_iff]
 constructor
 · rintro ⟨h1,h2⟩
   have hom:o+m≤x.n:=by
    refine Nat.le_of_not_lt fun g=>?_
    have h3:=h2 (x.n - o) (by omega)
    rw [show offT S d+o+(x.n - o)=offT S d+x.n by omega] at h3
    unfold symI patI at h3
    rw [sym_end h] at h3
    omega
   refine occB_yes hom (bstr_congr fun k hk=>?_)
   have h3:=h2 k hk
   rw [show offT S d+o+k=offT S d+(o+k) by omega] at h3
   unfold symI patI at h3
   rw [sym_byte h (by omega)] at h3
   show x.V (o+k)=p k
   omega
 · intro g
   unfold occB at g
   rw [Bool.and_eq_true,decide_eq_true_iff,decide_eq_true_iff] at g
   obtain ⟨_,h3⟩:=bstr_same (fun k hk=>hx (o+k) (by omega)) hp g.2
   refine ⟨by omega,fun k hk=>?_⟩
   rw [show offT S d+o+k=offT S d+(o+k) by omega]
   unfold symI patI
   rw [sym_byte h (by omega),←h3 k hk]
theorem cnt_occ {S:List Sec} (hS:∀x∈S,∀k,k < x.n→x.V k < 256) {m:Nat} {p:Nat→Nat} (hp:∀k,k < m→p k < 256):∀d,d≤S.length→cnt (stB (symI S) (lenT S) (patI S.length p) m) (offT S d)=tmW S m p d
 | 0,_=>rfl
 | d+1,h=>by
   obtain ⟨x,hx⟩:∃x,S[d]?=some x:=⟨_,List.getElem?_eq_getElem (by omega)⟩
   rw [offT_succ hx,cnt_add,cnt_occ hS hp d (by omega),cnt_congr fun j hj=>stB_occ hS hp hx (show j≤x.n by omega)]
   show _=tmW S m p d+tmA S m p d
   rw [tmA_at hx]
   rfl
theorem tmA_left {S S':List Sec} {m:Nat} {p:Nat→Nat} {d:Nat} (h:d < S.length):tmA (S++S') m p d=tmA S m p d:=by unfold tmA;rw [List.getElem?_append_left h]
theorem tmA_right {S S':List Sec} {m:Nat} {p:Nat→Nat} {d:Nat}:tmA (S++S') m p (S.length+d)=tmA S' m p d:=by unfold tmA;rw [List.getElem?_append_right (by omega),Nat.add_sub_cancel_left]
theorem tmW_left {S S':List Sec} {m:Nat} {p:Nat→Nat}:∀ {k:Nat},k≤S.length→tmW (S++S') m p k=tmW S m p k
 | 0,_=>rfl
 | k+1,h=>by
   show tmW (S++S') m p k+tmA (S++S') m p k=tmW S m p k+tmA S m p k
   rw [tmW_left (by omega),tmA_left (by omega)]
theorem tmW_right {S S':List Sec} {m:Nat} {p:Nat→Nat}:∀(k:Nat),tmW (S++S') m p (S.length+k)=tmW S m p S.length+tmW S' m p k
 | 0=>tmW_left (Nat.le_refl _)
 | k+1=>by
   show tmW (S++S') m p (S.length+k)+tmA (S++S') m p (S.length+k)=tmW S m p S.length+(tmW S' m p k+tmA S' m p k)
   rw [tmW_right k,tmA_right,Nat.add_assoc]
theorem prW_left {S S':List Sec} {m:Nat} {p:Nat→Nat}:∀ {k:Nat},k≤S.length→(prW (S++S') m p k).length=(prW S m p k).length
 | 0,_=>rfl
 | k+1,h=>by
   have ih:=prW_left (S:=S) (S':=S') (m:=m) (p:=p) (k:=k) (by omega)
   have e:=tmA_left (S':=S') (m:=m) (p:=p) (show k < S.length by omega)
   by_cases g:0 < tmA S m p k
   · rw [prW_hit (by rw [e];exact g),prW_hit g,List.length_append,List.length_append,ih]
     rfl
   · rw [prW_miss (by rw [e];exact g),prW_miss g,ih]
theorem prW_right {S S':List Sec} {m:Nat} {p:Nat→Nat}:∀(k:Nat),(prW (S++S') m p (S.length+k)).length=(prW S m p S.length).length+(prW S' m p k).length
 | 0=>prW_left (Nat.le_refl _)
 | k+1=>by
   have ih:=prW_right (S:=S) (S':=S') (m:=m) (p:=p) k
   have e:=tmA_right (S:=S) (S':=S') (m:=m) (p:=p) (d:=k)
   show (prW (S++S') m p (S.length+k+1)).length=_
   by_cases g:0 < tmA S' m p k
   · rw [prW_hit (by rw [e];exact g),prW_hit g,List.length_append,List.length_append,ih]
     rfl
   · rw [prW_miss (by rw [e];exact g),prW_miss g,ih]
def shP (k:Nat) (L:List (Int×Nat)):List (Int×Nat):=L.map fun z=>(z.1+(k:Int),z.2)
theorem plD_shift (f:Nat→Bool) (d k:Nat):∀i,plD f (k+d) i=shP k (plD f d i)
 | 0=>rfl
 | i+1=>by
   have ih:=plD_shift f d k i
   rcases e:f i with _ | _
   · rw [plD_miss e,plD_miss e,ih]
   · rw [plD_hit e,plD_hit e,ih]
     unfold shP
     rw [List.map_append]
     show _++[(((k+d:Nat):Int),i)]=_++[((d:Int)+(k:Int),i)]
     rw [show ((k+d:Nat):Int)=(d:Int)+(k:Int) by omega]
theorem plA_left {S S':List Sec} {m:Nat} {p:Nat→Nat} {d:Nat} (h:d < S.length):plA (S++S') m p d=plA S m p d:=by unfold plA;rw [List.getElem?_append_left h]
theorem plA_right {S S':List Sec} {m:Nat} {p:Nat→Nat} {d:Nat}:plA (S++S') m p (S.length+d)=shP S.length (plA S' m p d):=by
 unfold plA
 rw [List.getElem?_append_right (by omega),Nat.add_sub_cancel_left]
 rcases h:S'[d]? with _ | x
 · rfl
 · exact plD_shift _ _ _ _
theorem plW_left {S S':List Sec} {m:Nat} {p:Nat→Nat}:∀ {k:Nat},k≤S.length→plW (S++S') m p k=plW S m p k
 | 0,_=>rfl
 | k+1,h=>by
   show plW (S++S') m p k++plA (S++S') m p k=plW S m p k++plA S m p k
   rw [plW_left (by omega),plA_left (by omega)]
theorem plW_right {S S':List Sec} {m:Nat} {p:Nat→Nat}:∀(k:Nat),plW (S++S') m p (S.length+k)=plW S m p S.length++shP S.length (plW S' m p k)
 | 0=>by
   show plW (S++S') m p S.length=_++[]
   rw [plW_left (Nat.le_refl _),List.append_nil]
 | k+1=>by
   show plW (S++S') m p (S.length+k)++plA (S++S') m p (S.length+k)=_++shP S.length (plW S' m p k++plA S' m p k)
   rw [plW_right k,plA_right]
   unfold shP
   rw [List.map_append,List.append_assoc]
end Go.Proofs.YtcidobpbepeakaaGreat

namespace Go.Proofs.YtcidobpbepeakaaGreat
open Go.RowKit
theorem step_append_int_own {ops:Array Oper} {rest:List Oper} {o:Oper} {a:Act} {Q:Exit→Act→World→Prop} (hgd:o.guard=none) (s x:Operand)
    (ho:o.op=.call { callee:=.builtin .append,args:=#[s,x],argTypes:=#[34,34] })
    {w:World} {B:Nat} {v:Value} {i:Nat} {xs:List Value} (hs:a.eval s=v) (hown:w.ownsRow B 3 1 v i xs) (y:Int) (hx:a.eval x=.slice (some ⟨w.heap.size,0,none⟩) 1 1) (hB:B≤w.heap.size) (hi:i≤4194304)
    (h:∀g cap w',Hid (w'.ownsRow B 3 1 (.slice (some ⟨g,0,none⟩) (i+1) cap) (i+1) (xs++[.int .i64 y]))→Hid (w.grownBy w' v.ownBlock∧(v.ownBlock=some g∨w.heap.size≤g))→Below B w w'→wpList Tryz.prog ops Q rest (a.put o.dst (.slice (some ⟨g,0,none⟩) (i+1) cap)) w'):
    wpList Tryz.prog ops Q (o::rest) a (w.alloc (.cells #[.int .i64 y] 3)):=by
 obtain ⟨i0,hi0,hz0,hs0,hb0⟩:=info_parts info_i64
 refine wpList_append_lies (w.alloc (.cells #[.int .i64 y] 3)) hgd s x 34 ho B 3 i0 (.int .i64 0) 1 8 Tryz.underlying34 hi0 hz0 hs0 hb0 rfl (by decide) v i xs hs (hown.alloc _) ⟨w.heap.size,0,none⟩ 1 1 [.int .i64 y] hx rfl
  (World.news_of_block (cs:=#[.int .i64 y]) (t:=3) (fr:=(0,0)) (heap_alloc_new w _)) (by simp [Value.oneCell']) (by decide) (by unfold maxLen;omega) (by omega) (by rw [size_alloc];omega) (w.heap.size+1) (by rw [size_alloc]) (fun g cap w' h1 h2 h3 _=>?_)
 have hg:=grownBy_trans (World.grownBy_alloc w _ _) h2
 refine h g cap w' (Lib.hid h1) (Lib.hid ⟨hg,h3.imp id (fun e=>by omega)⟩) ?_
 exact ((Below.refl _ _).alloc hB _).grown h2 (by rw [size_alloc];omega) (fun k hk=>(hown.lt k hk).1)
end Go.Proofs.YtcidobpbepeakaaGreat

namespace Go.Proofs.YtcidobpbepeakaaGreat
open Go.RowKit
theorem refStands_is (A A':Option Addr) (n c m c':Nat) (V P:Nat→Int) (a:Nat) (w:World) (hn:n≤4194304) (hm:m≤maxLen) (ha:a≤n) (ho:Its w w.heap.size A n V) (ho':Its w w.heap.size A' m P):
    Calls Tryz.prog 42 #[.slice A n c,.slice A' m c',.int .i64 (a:Int)] w fun e w'=>e=.returned (.bool (stB V n P m a))∧Below w.heap.size w w':=by
 have HO:=Lib.hid ho
 have HP:=Lib.hid ho'
 obtain ⟨r,hr⟩:∃r,stB V n P m a=r:=⟨_,rfl⟩
 rw [hr]
 have HR:Hid (r=true↔StN V n P m a):=Lib.hid (by rw [←hr];exact stB_iff)
 have hml:m≤9223372036854775807:=by unfold maxLen at hm;omega
 have e1:IntKind.i64.wrap ((n:Int) - (a:Int))=(n:Int) - (a:Int):=IntWalk.i64_in _ (by omega)
 clear ho ho' hr hm
 by_cases hlt:a+m≤n
 · have d1:decide ((n:Int) - (a:Int) < (m:Int))=false:=decide_eq_false (by omega)
   go_enter Tryz.func42,Tryz.ntmps42
   go_wp2_with fail
   go_loopw [17] (fun v wr=>∃i:Nat,i≤m∧v=.int .i64 (i:Int)∧Hid (∀j,j < i→V (a+j)=P j)∧Hid (Below w.heap.size w wr)) (fun v _=>m - (intOf v).toNat)
   case atStart=>exact ⟨0,Nat.zero_le _,rfl,Lib.hid (fun j hj=>absurd hj (Nat.not_lt_zero j)),Lib.hid (Below.refl _ _)⟩
   case round=>
    obtain ⟨i,hi,rfl,hall,hb⟩:=hrel
    by_cases him:i < m
    · have himi:(i:Int) < (m:Int):=by omega
      obtain ⟨q,hq⟩:∃q,a+i=q:=⟨_,rfl⟩
      have e2:IntKind.i64.wrap ((a:Int)+(i:Int))=(q:Int):=by rw [IntWalk.i64_in _ (by omega)];omega
      have hqn:(q:Int) < (n:Int):=by omega
      obtain ⟨ad,hA,_,_,_⟩:=HO.out q (by omega)
      subst hA
      obtain ⟨ad',hA',_,_,_⟩:=HP.out i him
      subst hA'
      have c1:∀k,(wr.drewN k).cell? (ad.add q)=some (.int .i64 (V q)):=fun k=>by
       obtain ⟨_,e,_,h,_⟩:=(HO.out.below (below_drewN' hb.out k)) q (by omega)
       cases e
       exact h
      have c2:∀k,(wr.drewN k).cell? (ad'.add i)=some (.int .i64 (P i)):=fun k=>by
       obtain ⟨_,e,_,h,_⟩:=(HP.out.below (below_drewN' hb.out k)) i him
       cases e
       exact h
      have HB2:∀k,Hid (Below w.heap.size w (wr.drewN k)):=fun k=>Lib.hid (below_drewN' hb.out k)
      by_cases hv:V q=P i
      · have HN:Hid (∀j,j < i+1→V (a+j)=P j):=Lib.hid fun j hj=>by
         by_cases e:j=i
         · rw [e,hq];exact hv
         · exact hall.out j (by omega)
        rw [hv] at c1
        have g1:(P i != P i)=false:=by simp
        generalize P i=y at c1 c2 g1
        clear hall hb hv hq
        go_wp2_with fail
        go_quiet (fail)
        go_wp2_with fail
        go_roundw
        case rel=>exact ⟨i+1,by omega,by go_num,HN,HB2 _⟩
        case measure=>simp [intOf];omega
      · obtain rfl:r=false:=Bool.eq_false_iff.2 fun h=>hv (by
         have:=(HR.out.1 h).2 i him
         rwa [hq] at this)
        have g1:(V q != P i)=true:=by rw [bne_iff_ne];exact hv
        generalize V q=x at c1 g1 hv
        generalize P i=y at c2 g1 hv
        clear hall hb hq
        go_wp2_with fail
        go_quiet (fail)
        go_wp2_with fail
        go_ret
        exact ⟨rfl,(HB2 _).out⟩
    · have hge:¬(i:Int) < (m:Int):=by omega
      obtain rfl:r=true:=HR.out.2 ⟨hlt,fun j hj=>hall.out j (by omega)⟩
      go_wp2_with fail
      go_ret
      exact ⟨rfl,hb.out⟩
 · have d1:decide ((n:Int) - (a:Int) < (m:Int))=true:=decide_eq_true (by omega)
   have d2:(n:Int) - (a:Int) < (m:Int):=by omega
   obtain rfl:r=false:=Bool.eq_false_iff.2 fun h=>hlt (HR.out.1 h).1
   go_enter Tryz.func42,Tryz.ntmps42
   go_wp2_with fail
   go_ret
   exact ⟨rfl,Below.refl _ _⟩
def lstI (l:List Int):Nat→Int:=fun k=>l.getD k 0
theorem icells_lstI_snoc (l:List Int) (x:Int):icells (lstI (l++[x])) (l.length+1)=icells (lstI l) l.length++[.int .i64 x]:=by
 rw [icells_snoc]
 congr 1
 · refine icells_congr fun j hj=>?_
   unfold lstI
   rw [List.getD_eq_getElem?_getD,List.getD_eq_getElem?_getD,List.getElem?_append_left hj]
 · unfold lstI
   rw [List.getD_eq_getElem?_getD,List.getElem?_append_right (Nat.le_refl _),Nat.sub_self]
   rfl
theorem refRange15_any (A AS A':Option Addr) (n c k cs m c':Nat) (V P:Nat→Int) (s:Nat→Nat) (w:World) (hn:n≤4194303) (hk:k≤4194303) (hm:m≤maxLen) (hs:∀i,i < k→s i≤n) (ho:Its w w.heap.size A n V) (hS:Its w w.heap.size AS k (fun i=>((s i:Nat):Int))) (ho':Its w w.heap.size A' m P):
    Calls Tryz.prog 23 #[.slice A n c,.slice AS k cs,.slice A' m c'] w fun e w'=>e=.returned (.tuple #[.int .i64 (((rngF (fun i=>stB V n P m (s i)) k).1:Nat):Int),.int .i64 (((rngF (fun i=>stB V n P m (s i)) k).2:Nat):Int)])∧Below w.heap.size w w':=by
 have HO:=Lib.hid ho
 have HS:=Lib.hid hS
 have HP:=Lib.hid ho'
 have HSn:=Lib.hid hs
 clear ho hS ho' hs
 go_enter Tryz.func23,Tryz.ntmps23
 go_wp2_with fail
 go_loopw [8,9,14] (fun u t v wr=>∃i x y:Nat,i≤k∧y≤i∧v=.int .i64 (i:Int)∧u=.int .i64 (x:Int)∧t=.int .i64 (y:Int)∧Hid (rngF (fun i=>stB V n P m (s i)) i=(x,y))∧Hid (Below w.heap.size w wr)) (fun _ _ v _=>k - (intOf v).toNat)
 case atStart=>exact ⟨0,0,0,Nat.zero_le _,Nat.le_refl _,rfl,rfl,rfl,Lib.hid rfl,Lib.hid (Below.refl _ _)⟩
 case round=>
  obtain ⟨i,x,y,hi,hyi,rfl,rfl,rfl,hx,hb⟩:=hrel
  by_cases hlt:i < k
  · have hlti:(i:Int) < (k:Int):=by omega
    obtain ⟨ad,hA,_,cx,_⟩:=HS.out.below hb.out i hlt
    subst hA
    have HSt:=refStands_is A A' n c m c' V P (s i) _ (by omega) hm (HSn.out i hlt) ((HO.out.below hb.out).mono_ hb.out.size) ((HP.out.below hb.out).mono_ hb.out.size)
    obtain ⟨r,hr⟩:∃r,stB V n P m (s i)=r:=⟨_,rfl⟩
    rw [hr] at HSt
    have HSt:=Lib.hid HSt
    obtain ⟨z,hz⟩:∃z,s i=z:=⟨_,rfl⟩
    replace cx:World.cell? _ (ad.add i)=some (.int .i64 ((s i:Nat):Int)):=cx
    rw [hz] at cx HSt
    rename World=>wl
    cases r with
    | true=>
      by_cases hy0:y=0
      · subst hy0
        have HN:Hid (rngF (fun i=>stB V n P m (s i)) (i+1)=(i,i+1)):=Lib.hid (rngF_first (f:=fun i=>stB V n P m (s i)) hr (by rw [hx.out]))
        clear hr hz hx
        go_wp2_with fail
        refine HSt.out.mono ?_
        rintro e w4 ⟨rfl,hb4⟩
        have hB4:=Lib.hid (hb.out.trans (hb4.mono hb.out.size))
        clear hb hb4 HSt cx
        go_wp2_with fail
        go_roundw
        case rel=>exact ⟨i+1,i,i+1,by omega,by omega,by go_num,rfl,by go_num,HN,hB4⟩
        case measure=>simp [intOf];omega
      · have HN:Hid (rngF (fun i=>stB V n P m (s i)) (i+1)=(x,i+1)):=Lib.hid (by rw [rngF_more (f:=fun i=>stB V n P m (s i)) hr (by rw [hx.out];exact hy0),hx.out])
        have g1:((y:Int)==0)=false:=by rw [beq_eq_false_iff_ne];omega
        have g2:¬(y:Int)=0:=by omega
        clear hr hz hx
        go_wp2_with fail
        refine HSt.out.mono ?_
        rintro e w4 ⟨rfl,hb4⟩
        have hB4:=Lib.hid (hb.out.trans (hb4.mono hb.out.size))
        clear hb hb4 HSt cx
        go_wp2_with fail
        go_roundw
        case rel=>exact ⟨i+1,x,i+1,by omega,by omega,by go_num,rfl,by go_num,HN,hB4⟩
        case measure=>simp [intOf];omega
    | false=>
      have HN:Hid (rngF (fun i=>stB V n P m (s i)) (i+1)=(x,y)):=Lib.hid (by rw [rngF_miss (f:=fun i=>stB V n P m (s i)) hr];exact hx.out)
      clear hr hz hx
      go_wp2_with fail
      refine HSt.out.mono ?_
      rintro e w4 ⟨rfl,hb4⟩
      have hB4:=Lib.hid (hb.out.trans (hb4.mono hb.out.size))
      clear hb hb4 HSt cx
      go_wp2_with fail
      go_roundw
      case rel=>exact ⟨i+1,x,y,by omega,by omega,by go_num,rfl,rfl,HN,hB4⟩
      case measure=>simp [intOf];omega
  · obtain rfl:i=k:=by omega
    have hge:¬(i:Int) < (i:Int):=by omega
    go_wp2_with fail
    go_ret2
    exact ⟨by rw [hx.out];rfl,hb.out⟩
end Go.Proofs.YtcidobpbepeakaaGreat

namespace Go.Proofs.YtcidobpbepeakaaGreat
open Go.RowKit
def trnF (T:Nat→Int) (n:Nat) (s:Nat→Nat) (i:Nat):Int:=T ((s i+n - 1)%n)
def trnC (T:Nat→Int) (n:Nat) (s:Nat→Nat) (c:Int) (k:Nat):Nat:=Pl.cnt (fun i=>decide (trnF T n s i=c)) k
def trnB (T:Nat→Int) (n:Nat) (s:Nat→Nat) (c:Int):Nat:=Pl.cnt (fun i=>decide (trnF T n s i < c)) n
def narF (T:Nat→Int) (n:Nat) (s:Nat→Nat) (al:Nat) (a b c:Int):Int×Int:=
 if (0≤a∧a≤b∧b≤(n:Int)∧0≤c∧c < (al:Int))∧trnC T n s c a.toNat≠trnC T n s c b.toNat then (((trnB T n s c+trnC T n s c a.toNat:Nat):Int),((trnB T n s c+trnC T n s c b.toNat:Nat):Int)) else (0,0)
structure FindOk (T:Nat→Int) (n n':Nat) (S:Nat→Int) (al k:Int) (s:Nat→Nat):Prop where
 right:RightS T n al
 few:al < 4194304
 once:OnceT T n
 len:n'=n
 sa:IsSA T n s
 list:∀i,i < n→S i=((s i:Nat):Int)
 one:1≤k
 most:k≤4194304
section
variable {At:Nat→World→Value→Nat→(Nat→Int)→(Nat→Nat)→Nat→Nat→Prop}
end
end Go.Proofs.YtcidobpbepeakaaGreat

namespace Go.Proofs.YtcidobpbepeakaaGreat
open Pl (cnt cnt_succ cnt_congr)
theorem ahead_once {V T:Nat→Int} {n:Nat} {s:Nat→Nat} (hE:OnceT T n) (hs:IsSA T n s) (hV:∀i,i < n→V i=T (aheadN n (s i))) {i:Nat} (hi:i < n):s (stepI V n i)=aheadN n (s i):=by
 have hex:∀i,∃j,i < n→j < n∧s j=aheadN n (s i):=fun i=>by
  by_cases h:i < n
  · obtain ⟨j,h1,h2⟩:=hs.onto (aheadN_lt (hs.1 i h))
    exact ⟨j,fun _=>⟨h1,h2⟩⟩
  · exact ⟨0,fun h'=>absurd h' h⟩
 obtain ⟨f,hf⟩:∃f:Nat→Nat,∀i,i < n→f i < n∧s (f i)=aheadN n (s i):=⟨fun i=>(hex i).choose,fun i hi=>(hex i).choose_spec hi⟩
 have hb:Bij n f:=⟨fun i hi=>(hf i hi).1,fun i j hi hj he=>by
  have h1:=(hf i hi).2
  rw [he,(hf j hj).2] at h1
  exact (hs.inj hj hi (aheadN_inj (hs.1 j hj) (hs.1 i hi) h1)).symm⟩
 have lt_iff:∀a b,a < n→b < n→(a < b↔SLess T n (s a) (s b)):=fun a b ha hb=>by
  constructor
  · intro h
    exact hs.2 a b h hb
  · intro h
    rcases Nat.lt_trichotomy a b with h1 | h1 | h1
    · exact h1
    · rw [h1] at h
      exact absurd h sless_irrefl
    · exact absurd h (sless_asymm (hs.2 b a h1 ha))
 have hlast:∀p,p < n→T p=T (n - 1)→p=n - 1:=fun p hp he=>by
  by_cases h:p+1 < n
  · exact absurd he (hE.2 p h)
  · omega
 have ho:∀i j,i < n→j < n→(f j < f i↔V j < V i∨V j=V i∧j < i):=fun i j hi hj=>by
  rw [lt_iff _ _ (hf j hj).1 (hf i hi).1,(hf j hj).2,(hf i hi).2,hV i hi,hV j hj]
  have hp:=aheadN_lt (hs.1 j hj)
  have hq:=aheadN_lt (hs.1 i hi)
  by_cases he:T (aheadN n (s j))=T (aheadN n (s i))
  · have hne:¬T (aheadN n (s j)) < T (aheadN n (s i)):=by omega
    by_cases h0:s j=0
    · have h1:aheadN n (s i)=n - 1:=hlast _ hq (by rw [←he];unfold aheadN;rw [if_pos h0])
      have h2:s i=0:=by
       unfold aheadN at h1
       split at h1
       · assumption
       · have:=hs.1 i hi
         omega
      have hji:j=i:=hs.inj hj hi (by omega)
      subst hji
      constructor
      · intro h
        exact absurd h sless_irrefl
      · rintro (h | ⟨_,h⟩) <;> omega
    · by_cases h0':s i=0
      · have h1:aheadN n (s j)=n - 1:=hlast _ hp (by rw [he];unfold aheadN;rw [if_pos h0'])
        have:=hs.1 j hj
        unfold aheadN at h1
        rw [if_neg h0] at h1
        omega
      · rw [sless_step hp hq he]
        have e1:aheadN n (s j)+1=s j:=by unfold aheadN;rw [if_neg h0];omega
        have e2:aheadN n (s i)+1=s i:=by unfold aheadN;rw [if_neg h0'];omega
        rw [e1,e2,←lt_iff j i hj hi]
        constructor
        · intro h
          exact .inr ⟨he,h⟩
        · rintro (h | ⟨_,h⟩)
          · exact absurd h hne
          · exact h
  · rw [sless_now hp hq he]
    constructor
    · intro h
      exact .inl h
    · rintro (h | ⟨h,_⟩)
      · exact h
      · exact absurd h he
 rw [←bij_ranked hb ho hi,(hf i hi).2]
theorem ahead_mod {n p:Nat} (hp:p < n):(p+n - 1)%n=aheadN n p:=by
 unfold aheadN
 by_cases h:p=0
 · rw [if_pos h,h,Nat.zero_add,Nat.mod_eq_of_lt (by omega)]
 · rw [if_neg h,show p+n - 1=p - 1+n by omega,Nat.add_mod_right,Nat.mod_eq_of_lt (by omega)]
def lfF (T:Nat→Int) (n:Nat) (s:Nat→Nat) (i:Nat):Nat:=trnB T n s (trnF T n s i)+trnC T n s (trnF T n s i) i
theorem lfF_is (T:Nat→Int) (n:Nat) (s:Nat→Nat) (i:Nat):lfF T n s i=stepI (trnF T n s) n i:=rfl
theorem lfF_lt {T:Nat→Int} {n:Nat} {s:Nat→Nat} {i:Nat} (hi:i < n):lfF T n s i < n:=by rw [lfF_is];exact stepI_lt hi
theorem trnF_at {T:Nat→Int} {n:Nat} {s:Nat→Nat} (hs:IsSA T n s) {i:Nat} (hi:i < n):trnF T n s i=T (aheadN n (s i)):=by
 unfold trnF
 rw [ahead_mod (hs.1 i hi)]
theorem lfF_at {T:Nat→Int} {n:Nat} {s:Nat→Nat} (hE:OnceT T n) (hs:IsSA T n s) {i:Nat} (hi:i < n):s (lfF T n s i)=aheadN n (s i):=by
 rw [lfF_is]
 exact ahead_once hE hs (fun i hi=>trnF_at hs hi) hi
def lfK (T:Nat→Int) (n:Nat) (s:Nat→Nat):Nat→Nat→Nat
 | 0,i=>i
 | d+1,i=>lfF T n s (lfK T n s d i)
theorem lfK_at {T:Nat→Int} {n:Nat} {s:Nat→Nat} (hE:OnceT T n) (hs:IsSA T n s) {i:Nat} (hi:i < n):∀d,d≤s i→lfK T n s d i < n∧s (lfK T n s d i)=s i - d
 | 0,_=>⟨hi,rfl⟩
 | d+1,h=>by
   obtain ⟨h1,h2⟩:=lfK_at hE hs hi d (by omega)
   refine ⟨lfF_lt h1,?_⟩
   show s (lfF T n s (lfK T n s d i))=_
   rw [lfF_at hE hs h1,h2]
   unfold aheadN
   rw [if_neg (by omega)]
   omega
theorem cnt_mono_ {f:Nat→Bool} {a b:Nat} (h:a≤b):cnt f a≤cnt f b:=by
 obtain ⟨d,rfl⟩:∃d,b=a+d:=⟨b - a,by omega⟩
 rw [Pl.cnt_add]
 omega
theorem cnt_sel {f:Nat→Bool} {a t:Nat}:∀ {b:Nat},cnt f a≤t→t < cnt f b→∃i,a≤i∧i < b∧f i=true∧cnt f i=t
 | 0,h1,h2=>absurd h2 (Nat.not_lt_zero _)
 | b+1,h1,h2=>by
   rw [cnt_succ] at h2
   by_cases h:t < cnt f b
   · obtain ⟨i,g1,g2,g3⟩:=cnt_sel h1 h
     exact ⟨i,g1,by omega,g3⟩
   · cases hf:f b with
     | false=>
       rw [hf] at h2
       exact absurd h2 (by simpa using h)
     | true=>
       rw [hf,if_pos rfl] at h2
       refine ⟨b,Nat.le_of_not_lt fun g=>?_,Nat.lt_succ_self b,hf,by omega⟩
       have:=cnt_mono_ (f:=f) (show b+1≤a by omega)
       rw [cnt_succ,hf,if_pos rfl] at this
       omega
theorem nar_set {T:Nat→Int} {n:Nat} {s:Nat→Nat} {c:Int} {a b j:Nat}:(∃i,a≤i∧i < b∧trnF T n s i=c∧lfF T n s i=j)↔trnB T n s c+trnC T n s c a≤j∧j < trnB T n s c+trnC T n s c b:=by
 constructor
 · rintro ⟨i,h1,h2,h3,rfl⟩
   unfold lfF
   rw [h3]
   have g1:trnC T n s c a≤trnC T n s c i:=cnt_mono_ h1
   have g2:trnC T n s c (i+1)≤trnC T n s c b:=cnt_mono_ h2
   have g3:trnC T n s c (i+1)=trnC T n s c i+1:=by
    unfold trnC
    rw [cnt_succ,decide_eq_true h3,if_pos rfl]
   omega
 · rintro ⟨h1,h2⟩
   obtain ⟨i,g1,g2,g3,g4⟩:=cnt_sel (f:=fun i=>decide (trnF T n s i=c)) (a:=a) (b:=b) (t:=j - trnB T n s c) (by show trnC T n s c a≤_;omega) (by show _ < trnC T n s c b;omega)
   rw [decide_eq_true_iff] at g3
   refine ⟨i,g1,g2,g3,?_⟩
   unfold lfF
   rw [g3]
   have g4:trnC T n s c i=j - trnB T n s c:=g4
   omega
def consF (c:Int) (P:Nat→Int):Nat→Int
 | 0=>c
 | k+1=>P k
theorem stN_cons {T:Nat→Int} {n:Nat} {P:Nat→Int} {c:Int} {m a:Nat} (h:StN T n (consF c P) (m+1) a):a < n∧T a=c∧StN T n P m (a+1):=by
 refine ⟨by have:=h.1;omega,h.2 0 (by omega),by have:=h.1;omega,fun i hi=>?_⟩
 have:=h.2 (i+1) (by omega)
 rw [show a+1+i=a+(i+1) by omega]
 exact this
theorem stN_cons' {T:Nat→Int} {n:Nat} {P:Nat→Int} {c:Int} {m a:Nat} (h:T a=c) (h2:StN T n P m (a+1)):StN T n (consF c P) (m+1) a:=by
 refine ⟨by have:=h2.1;omega,fun i hi=>?_⟩
 cases i with
 | zero=>exact h
 | succ i=>
   have:=h2.2 i (by omega)
   rw [show a+1+i=a+(i+1) by omega] at this
   exact this
theorem nar_stands {T:Nat→Int} {n:Nat} {s:Nat→Nat} (hE:OnceT T n) (hs:IsSA T n s) {P:Nat→Int} {m:Nat} {c:Int} (hc:c≠T (n - 1)∨m=0) {j:Nat} (hj:j < n):
    stB T n (consF c P) (m+1) (s j)=true↔∃i,i < n∧stB T n P m (s i)=true∧trnF T n s i=c∧lfF T n s i=j:=by
 rw [stB_iff]
 constructor
 · intro h
   obtain ⟨h1,h2,h3⟩:=stN_cons h
   obtain ⟨q,hq,hqs⟩:∃q,q < n∧aheadN n q=s j:=by
    by_cases e:s j+1 < n
    · exact ⟨s j+1,e,by unfold aheadN;rw [if_neg (by omega)];omega⟩
    · exact ⟨0,by omega,by unfold aheadN;rw [if_pos rfl];omega⟩
   obtain ⟨i,hi,hsi⟩:=hs.onto hq
   refine ⟨i,hi,?_,by rw [trnF_at hs hi,hsi,hqs];exact h2,hs.inj (lfF_lt hi) hj (by rw [lfF_at hE hs hi,hsi,hqs])⟩
   rw [stB_iff,hsi]
   by_cases hm:m=0
   · subst hm
     exact ⟨by omega,fun k hk=>absurd hk (Nat.not_lt_zero k)⟩
   · have h4:s j+1 < n:=by have:=h3.1;omega
     have e:q=s j+1:=aheadN_inj hq h4 (by rw [hqs];unfold aheadN;rw [if_neg (by omega)];omega)
     rw [e]
     exact h3
 · rintro ⟨i,hi,h1,h2,h3⟩
   have e:s j=aheadN n (s i):=by rw [←h3];exact lfF_at hE hs hi
   rw [trnF_at hs hi,←e] at h2
   rw [stB_iff] at h1
   by_cases h0:s i=0
   · have h4:s j=n - 1:=by rw [e];unfold aheadN;rw [if_pos h0]
     rcases hc with hc | hc
     · rw [h4] at h2
       exact absurd h2.symm hc
     · subst hc
       exact stN_cons' h2 ⟨by have:=hs.1 j hj;omega,fun k hk=>absurd hk (Nat.not_lt_zero k)⟩
   · have h4:s i=s j+1:=by
      rw [e]
      unfold aheadN
      rw [if_neg h0]
      omega
     rw [h4] at h1
     exact stN_cons' h2 h1
theorem nar_last {T:Nat→Int} {n:Nat} (hE:OnceT T n) {P:Nat→Int} {m:Nat} (hm:0 < m) {a:Nat}:stB T n (consF (T (n - 1)) P) (m+1) a=false:=by
 rw [Bool.eq_false_iff]
 intro h
 rw [stB_iff] at h
 obtain ⟨h1,h2,h3⟩:=stN_cons h
 have:=h3.1
 exact hE.2 a (by omega) h2
theorem rngF_nil {f:Nat→Bool}:∀ {n:Nat},(∀j,j < n→f j=false)→rngF f n=(0,0)
 | 0,_=>rfl
 | n+1,h=>by rw [rngF_miss (h n (Nat.lt_succ_self n)),rngF_nil fun j hj=>h j (by omega)]
theorem rngF_of {f:Nat→Bool} {x y:Nat}:∀ {n:Nat},x < y→y≤n→(∀j,j < n→(f j=true↔x≤j∧j < y))→rngF f n=(x,y)
 | 0,h1,h2,_=>by omega
 | n+1,h1,h2,h=>by
   by_cases e:y=n+1
   · have hn:f n=true:=(h n (Nat.lt_succ_self n)).2 ⟨by omega,by omega⟩
     by_cases hx:x=n
     · have h0:rngF f n=(0,0):=rngF_nil fun j hj=>by
        rw [Bool.eq_false_iff]
        intro g
        have:=(h j (by omega)).1 g
        omega
       rw [rngF_first hn (by rw [h0]),hx,e]
     · have ih:=rngF_of (f:=f) (x:=x) (y:=n) (n:=n) (by omega) (Nat.le_refl _) fun j hj=>by
        rw [h j (by omega)]
        omega
       rw [rngF_more hn (by rw [ih];show n≠0;omega),ih,e]
   · have hn:f n=false:=by
      rw [Bool.eq_false_iff]
      intro g
      have:=(h n (Nat.lt_succ_self n)).1 g
      omega
     rw [rngF_miss hn]
     exact rngF_of h1 (by omega) fun j hj=>h j (by omega)
theorem rngF_in {T:Nat→Int} {n:Nat} {s:Nat→Nat} (hs:IsSA T n s) {P:Nat→Int} {m:Nat} {i:Nat} (hi:i < n):stB T n P m (s i)=true↔(rngF (fun i=>stB T n P m (s i)) n).1≤i∧i < (rngF (fun i=>stB T n P m (s i)) n).2:=
 (rngF_side (f:=fun i=>stB T n P m (s i)) (n:=n) (fun _ _ _ h1 h2 h3 h4 h5=>stB_between hs h1 h2 h3 h4 h5) n (Nat.le_refl _)).2 i hi
theorem nar_range {T:Nat→Int} {n:Nat} {s:Nat→Nat} (hE:OnceT T n) (hs:IsSA T n s) {P:Nat→Int} {m:Nat} {c:Int} (hc:c≠T (n - 1)∨m=0) {a b:Nat} (hab:rngF (fun i=>stB T n P m (s i)) n=(a,b)):
    rngF (fun i=>stB T n (consF c P) (m+1) (s i)) n=if trnC T n s c a≠trnC T n s c b then (trnB T n s c+trnC T n s c a,trnB T n s c+trnC T n s c b) else (0,0):=by
 have hle:=rngF_le (fun i=>stB T n P m (s i)) n
 rw [hab] at hle
 have hle:a≤b∧b≤n:=hle
 have hset:∀j,j < n→(stB T n (consF c P) (m+1) (s j)=true↔trnB T n s c+trnC T n s c a≤j∧j < trnB T n s c+trnC T n s c b):=fun j hj=>by
  rw [nar_stands hE hs hc hj,←nar_set]
  constructor
  · rintro ⟨i,hi,h1,h2,h3⟩
    have:=(rngF_in hs hi).1 h1
    rw [hab] at this
    exact ⟨i,this.1,this.2,h2,h3⟩
  · rintro ⟨i,h1,h2,h3,h4⟩
    have hi:i < n:=by omega
    exact ⟨i,hi,(rngF_in hs hi).2 (by rw [hab];exact ⟨h1,h2⟩),h3,h4⟩
 have hmono:trnC T n s c a≤trnC T n s c b:=cnt_mono_ hle.1
 by_cases e:trnC T n s c a=trnC T n s c b
 · rw [if_neg (fun h=>h e)]
   refine rngF_nil fun j hj=>?_
   rw [Bool.eq_false_iff]
   intro g
   have:=(hset j hj).1 g
   omega
 · rw [if_pos e]
   refine rngF_of (by omega) ?_ hset
   refine Nat.le_of_not_lt fun g=>?_
   obtain ⟨i,h1,h2,h3,h4⟩:=(nar_set (T:=T) (n:=n) (s:=s) (c:=c) (a:=a) (b:=b) (j:=trnB T n s c+trnC T n s c b - 1)).2 ⟨by omega,by omega⟩
   have:=lfF_lt (T:=T) (s:=s) (show i < n by omega)
   omega
end Go.Proofs.YtcidobpbepeakaaGreat

namespace Go.Proofs.YtcidobpbepeakaaGreat
def lstR (V:Nat→Int) (a b:Int):Nat→Int
 | 0=> -1
 | m+1=>if (a≤(m:Int)∧(m:Int) < b)∧(lstR V a b m < 0∨V m < V (lstR V a b m).toNat) then (m:Int) else lstR V a b m
theorem lstR_out {V:Nat→Int} {a b:Int} {m:Nat} (h:¬(a≤(m:Int)∧(m:Int) < b)):lstR V a b (m+1)=lstR V a b m:=if_neg fun g=>h g.1
theorem lstR_new {V:Nat→Int} {a b:Int} {m:Nat} (h:a≤(m:Int)∧(m:Int) < b) (h2:lstR V a b m < 0∨V m < V (lstR V a b m).toNat):lstR V a b (m+1)=(m:Int):=if_pos ⟨h,h2⟩
theorem lstR_old {V:Nat→Int} {a b:Int} {m:Nat} (h2:¬(lstR V a b m < 0∨V m < V (lstR V a b m).toNat)):lstR V a b (m+1)=lstR V a b m:=if_neg fun g=>h2 g.2
structure LstAt (V:Nat→Int) (a b:Int) (m p:Nat):Prop where
 lt:p < m
 lo:a≤(p:Int)
 hi:(p:Int) < b
 le:∀j:Nat,j < m→a≤(j:Int)→(j:Int) < b→V p≤V j
 first:∀j:Nat,j < p→a≤(j:Int)→(j:Int) < b→V p < V j
theorem lstR_is (V:Nat→Int) (a b:Int):∀m,(lstR V a b m= -1∧∀j:Nat,j < m→¬(a≤(j:Int)∧(j:Int) < b))∨∃p:Nat,lstR V a b m=(p:Int)∧LstAt V a b m p
 | 0=>.inl ⟨rfl,fun j hj=>absurd hj (Nat.not_lt_zero j)⟩
 | m+1=>by
   by_cases h:a≤(m:Int)∧(m:Int) < b
   · rcases lstR_is V a b m with ⟨h1,h2⟩ | ⟨p,h1,h2⟩
     · refine .inr ⟨m,lstR_new h (.inl (by rw [h1];decide)),Nat.lt_succ_self m,h.1,h.2,fun j hj g1 g2=>?_,fun j hj g1 g2=>absurd ⟨g1,g2⟩ (h2 j hj)⟩
       by_cases e:j=m
       · rw [e];exact Int.le_refl _
       · exact absurd ⟨g1,g2⟩ (h2 j (by omega))
     · by_cases hlt:V m < V p
       · refine .inr ⟨m,lstR_new h (.inr (by rw [h1,Int.toNat_natCast];exact hlt)),Nat.lt_succ_self m,h.1,h.2,fun j hj g1 g2=>?_,fun j hj g1 g2=>?_⟩
         · by_cases e:j=m
           · rw [e];exact Int.le_refl _
           · have:=h2.le j (by omega) g1 g2
             omega
         · have:=h2.le j hj g1 g2
           omega
       · refine .inr ⟨p,(lstR_old (by rw [h1,Int.toNat_natCast];omega)).trans h1,by have:=h2.lt;omega,h2.lo,h2.hi,fun j hj g1 g2=>?_,h2.first⟩
         by_cases e:j=m
         · rw [e];omega
         · exact h2.le j (by omega) g1 g2
   · rw [lstR_out h]
     rcases lstR_is V a b m with ⟨h1,h2⟩ | ⟨p,h1,h2⟩
     · exact .inl ⟨h1,fun j hj=>by
        by_cases e:j=m
        · rw [e];exact h
        · exact h2 j (by omega)⟩
     · exact .inr ⟨p,h1,by have:=h2.lt;omega,h2.lo,h2.hi,fun j hj g1 g2=>by
        by_cases e:j=m
        · rw [e] at g1 g2
          exact absurd ⟨g1,g2⟩ h
        · exact h2.le j (by omega) g1 g2,h2.first⟩
theorem lstR_at {V:Nat→Int} {a b:Int} {m p:Nat} (h:LstAt V a b m p):lstR V a b m=(p:Int):=by
 rcases lstR_is V a b m with ⟨_,h2⟩ | ⟨q,h1,h2⟩
 · exact absurd ⟨h.lo,h.hi⟩ (h2 p h.lt)
 · rw [h1]
   rcases Nat.lt_trichotomy p q with g | g | g
   · have h3:=h2.first p g h.lo h.hi
     have h4:=h.le q h2.lt h2.lo h2.hi
     omega
   · rw [g]
   · have h3:=h.first q g h2.lo h2.hi
     have h4:=h2.le p h.lt h.lo h.hi
     omega
theorem lstR_none {V:Nat→Int} {a b:Int} {m:Nat} (h:∀j:Nat,j < m→¬(a≤(j:Int)∧(j:Int) < b)):lstR V a b m= -1:=by
 rcases lstR_is V a b m with ⟨h1,_⟩ | ⟨q,_,h2⟩
 · exact h1
 · exact absurd ⟨h2.lo,h2.hi⟩ (h q h2.lt)
end Go.Proofs.YtcidobpbepeakaaGreat

namespace Go.Proofs.YtcidobpbepeakaaGreat
open Pl (cnt cnt_succ cnt_congr)
def laidT (D L:Nat→Int) (i:Nat):Int:=if lastD D i < 0 then -1 else lstR L (lastD D i+1) ((i:Int)+1) (i+1)
def dblT (D L:Nat→Int) (m q:Nat):Nat:=cnt (fun i=>decide (laidT D L i=(q:Int))) m
theorem dblT_succ (D L:Nat→Int) (m q:Nat):dblT D L (m+1) q=dblT D L m q+(if laidT D L m=(q:Int) then 1 else 0):=by
 unfold dblT
 rw [cnt_succ]
 by_cases h:laidT D L m=(q:Int)
 · rw [if_pos (decide_eq_true h),if_pos h]
 · rw [if_neg (by rw [decide_eq_true_iff];exact h),if_neg h]
theorem dblT_le (D L:Nat→Int) (m q:Nat):dblT D L m q≤m:=Pl.cnt_le _ m
theorem laidT_none {D L:Nat→Int} {i:Nat} (h:lastD D i < 0):laidT D L i= -1:=if_pos h
theorem laidT_is {D L:Nat→Int} {i p:Nat} (h:lastD D i=(p:Int)):∃q:Nat,laidT D L i=(q:Int)∧LstAt L ((p:Int)+1) ((i:Int)+1) (i+1) q:=by
 unfold laidT
 have hr:=lastD_room D i
 rw [if_neg (by omega),h]
 rcases lstR_is L ((p:Int)+1) ((i:Int)+1) (i+1) with ⟨_,h2⟩ | ⟨q,h1,h2⟩
 · exact absurd ⟨by omega,by omega⟩ (h2 i (by omega))
 · exact ⟨q,h1,h2⟩
theorem laidT_room {D L:Nat→Int} {i:Nat} (h:0≤lastD D i):0 < laidT D L i∧lastD D i < laidT D L i∧laidT D L i≤(i:Int):=by
 obtain ⟨p,hp⟩:∃p:Nat,lastD D i=(p:Int):=⟨(lastD D i).toNat,by omega⟩
 obtain ⟨q,h1,h2⟩:=laidT_is (L:=L) hp
 have:=h2.lo
 have:=h2.hi
 rw [h1,hp]
 omega
theorem laidT_lt {D L:Nat→Int} {i n:Nat} (hi:i < n):laidT D L i < (n:Int):=by
 by_cases h:lastD D i < 0
 · rw [laidT_none h];omega
 · have:=laidT_room (L:=L) (show 0≤lastD D i by omega)
   omega
def sumD (f:Nat→Nat) (a:Nat):Nat→Nat
 | 0=>0
 | k+1=>sumD f a k+f (a+k)
theorem cnt_add_or {f g:Nat→Bool} (h:∀j,¬(f j=true∧g j=true)):∀n,cnt (fun j=>f j || g j) n=cnt f n+cnt g n
 | 0=>rfl
 | n+1=>by
   have ih:=cnt_add_or h n
   have h0:=h n
   rw [cnt_succ,cnt_succ,cnt_succ,ih]
   cases hf:f n <;> cases hg:g n <;> simp [hf,hg] at h0 ⊢ <;> omega
theorem sumD_cnt (F:Nat→Int) (n a:Nat):∀k,sumD (fun q=>cnt (fun i=>decide (F i=(q:Int))) n) a k=cnt (fun i=>decide ((a:Int)≤F i∧F i < ((a+k:Nat):Int))) n
 | 0=>by
   show 0=_
   rw [Pl.cnt_zero fun i _=>decide_eq_false (by omega)]
 | k+1=>by
   show sumD _ a k+cnt (fun i=>decide (F i=((a+k:Nat):Int))) n=_
   rw [sumD_cnt F n a k,←cnt_add_or (fun j=>by
    rw [decide_eq_true_iff,decide_eq_true_iff]
    omega)]
   refine cnt_congr fun i _=>?_
   rw [Bool.eq_iff_iff,Bool.or_eq_true,decide_eq_true_iff,decide_eq_true_iff,decide_eq_true_iff]
   omega
def docsI (D L:Nat→Int) (n:Nat) (a b:Int):Int:=if 0≤a∧a < b∧b≤(n:Int) then (b - a) - ((sumD (dblT D L n) (a.toNat+1) (b.toNat - a.toNat - 1):Nat):Int) else 0
theorem docsI_out {D L:Nat→Int} {n:Nat} {a b:Int} (h:¬(0≤a∧a < b∧b≤(n:Int))):docsI D L n a b=0:=if_neg h
theorem docsI_in {D L:Nat→Int} {n a b:Nat} (h1:a < b) (h2:b≤n):docsI D L n (a:Int) (b:Int)=((b:Int) - (a:Int)) - ((sumD (dblT D L n) (a+1) (b - a - 1):Nat):Int):=by
 unfold docsI
 rw [if_pos (by omega),Int.toNat_natCast,Int.toNat_natCast]
def unlT (D:Nat→Int) (a b:Nat) (m:Nat):Nat:=cnt (fun j=>decide (a≤j∧j < b∧lastD D j < (a:Int))) m
theorem cnt_span (a b:Nat) (h:a≤b):∀n,b≤n→cnt (fun j=>decide (a≤j∧j < b)) n=b - a:=fun n hn=>by
 rw [cnt_between a b h n,Nat.min_eq_right hn,Nat.min_eq_right (by omega)]
theorem laidT_within {D L:Nat→Int} {n a b i:Nat} {v:Int} (hi:i < n) (hin:∀q,a < q→q < b→v≤L q) (hlo:L a < v) (hhi:b < n→L b < v):
    ((a:Int)+1≤laidT D L i∧laidT D L i < (b:Int))↔(a≤i∧i < b∧¬lastD D i < (a:Int)):=by
 by_cases h0:lastD D i < 0
 · rw [laidT_none h0]
   omega
 · obtain ⟨p,hp⟩:∃p:Nat,lastD D i=(p:Int):=⟨(lastD D i).toNat,by omega⟩
   have hr:=lastD_room D i
   obtain ⟨q,h1,h2⟩:=laidT_is (L:=L) hp
   have hlo2:=h2.lo
   have hhi2:=h2.hi
   rw [h1,hp]
   constructor
   · intro ⟨g1,g2⟩
     have hv:=hin q (by omega) (by omega)
     refine ⟨?_,?_,?_⟩
     · omega
     · apply Classical.byContradiction
       intro h
       have:=h2.le b (by omega) (by omega) (by omega)
       have:=hhi (by omega)
       omega
     · intro h
       have:=h2.le a (by omega) (by omega) (by omega)
       omega
   · intro ⟨g1,g2,g3⟩
     omega
theorem docsI_unlike {D L:Nat→Int} {n a b:Nat} {v:Int} (hin:∀q,a < q→q < b→v≤L q) (hlo:L a < v) (hhi:b < n→L b < v) (hab:a < b) (hb:b≤n):docsI D L n (a:Int) (b:Int)=((unlT D a b n:Nat):Int):=by
 rw [docsI_in hab hb]
 have e1:sumD (dblT D L n) (a+1) (b - a - 1)=cnt (fun j=>decide (a≤j∧j < b∧¬lastD D j < (a:Int))) n:=by
  have h:=sumD_cnt (laidT D L) n (a+1) (b - a - 1)
  have h:sumD (dblT D L n) (a+1) (b - a - 1)=_:=h
  rw [h]
  refine cnt_congr fun i hi=>decide_eq_decide.2 ?_
  rw [←laidT_within hi hin hlo hhi,show a+1+(b - a - 1)=b by omega]
  omega
 have e2:cnt (fun j=>decide (a≤j∧j < b)) n=cnt (fun j=>decide (a≤j∧j < b∧¬lastD D j < (a:Int))) n+unlT D a b n:=by
  unfold unlT
  rw [←cnt_add_or (fun j=>by
   rw [decide_eq_true_iff,decide_eq_true_iff]
   omega)]
  refine cnt_congr fun j _=>?_
  rw [Bool.eq_iff_iff,Bool.or_eq_true,decide_eq_true_iff,decide_eq_true_iff,decide_eq_true_iff]
  omega
 rw [cnt_span a b (by omega) n hb] at e2
 rw [e1]
 omega
theorem stN_shares {V:Nat→Int} {n:Nat} {P:Nat→Int} {m a b:Nat} (ha:StN V n P m a) (hb:StN V n P m b):Shares V n a b m:=fun i hi=>⟨by have:=ha.1;omega,by have:=hb.1;omega,by rw [ha.2 i hi,hb.2 i hi]⟩
theorem stN_of_shares {V:Nat→Int} {n:Nat} {P:Nat→Int} {m a b:Nat} (hm:0 < m) (ha:StN V n P m a) (h:Shares V n a b m):StN V n P m b:=⟨(h.in hm).2,fun i hi=>by rw [←(h i hi).2.2];exact ha.2 i hi⟩
theorem tally_docs {V D:Nat→Int} {n:Nat} {s:Nat→Nat} (hs:IsSA V n s) {P:Nat→Int} {m:Nat} (hm:0 < m):
    docsI D (lcpI V n fun i=>((s i:Nat):Int)) n (((rngF (fun i=>stB V n P m (s i)) n).1:Nat):Int) (((rngF (fun i=>stB V n P m (s i)) n).2:Nat):Int)=
     ((unlT D (rngF (fun i=>stB V n P m (s i)) n).1 (rngF (fun i=>stB V n P m (s i)) n).2 n:Nat):Int):=by
 obtain ⟨_,hside⟩:=rngF_side (f:=fun i=>stB V n P m (s i)) (n:=n) (fun i j k h1 h2 h3 h4 h5=>stB_between hs h1 h2 h3 h4 h5) n (Nat.le_refl _)
 have hle:=rngF_le (fun i=>stB V n P m (s i)) n
 generalize (rngF (fun i=>stB V n P m (s i)) n).1=a at hside hle ⊢
 generalize (rngF (fun i=>stB V n P m (s i)) n).2=b at hside hle ⊢
 by_cases hab:a < b
 · have hst:∀j,a≤j→j < b→StN V n P m (s j):=fun j h1 h2=>stB_iff.1 ((hside j (by omega)).2 ⟨h1,h2⟩)
   have hno:∀j,j < n→¬(a≤j∧j < b)→¬StN V n P m (s j):=fun j hj h g=>h ((hside j hj).1 (stB_iff.2 g))
   refine docsI_unlike (v:=(m:Int)) (fun q h1 h2=>?_) ?_ (fun hb=>?_) hab hle.2
   · obtain ⟨r,rfl⟩:∃r,q=r+1:=⟨q - 1,by omega⟩
     rw [lcpI_succ,comI_in (hs.1 r (by omega)) (hs.1 (r+1) (by omega))]
     have:=com_le.2 (stN_shares (hst r (by omega) (by omega)) (hst (r+1) (by omega) h2))
     omega
   · rcases a with _ | r
     · rw [lcpI_zero];omega
     · rw [lcpI_succ,comI_in (hs.1 r (by omega)) (hs.1 (r+1) (by omega))]
       apply Int.lt_of_not_ge
       intro h
       exact hno r (by omega) (by omega) (stN_of_shares hm (hst (r+1) (Nat.le_refl _) hab) (com_le.1 (show m≤com V n (s r) (s (r+1)) by omega)).symm)
   · obtain ⟨r,rfl⟩:∃r,b=r+1:=⟨b - 1,by omega⟩
     rw [lcpI_succ,comI_in (hs.1 r (by omega)) (hs.1 (r+1) hb)]
     apply Int.lt_of_not_ge
     intro h
     exact hno (r+1) hb (by omega) (stN_of_shares hm (hst r (by omega) (Nat.lt_succ_self r)) (com_le.1 (show m≤com V n (s r) (s (r+1)) by omega)))
 · rw [docsI_out (by omega)]
   have:unlT D a b n=0:=Pl.cnt_zero fun j _=>decide_eq_false (by omega)
   rw [this]
   rfl
def againT (D:Nat→Int) (m:Nat):Nat:=cnt (fun j=>decide (0≤lastD D j)) m
theorem againT_succ (D:Nat→Int) (m:Nat):againT D (m+1)=againT D m+(if 0≤lastD D m then 1 else 0):=by
 unfold againT
 rw [cnt_succ]
 by_cases h:0≤lastD D m
 · rw [if_pos (decide_eq_true h),if_pos h]
 · rw [if_neg (by rw [decide_eq_true_iff];exact h),if_neg h]
theorem sum_again (D L:Nat→Int) (n:Nat):sumD (dblT D L n) 0 n=againT D n:=by
 have h:=sumD_cnt (laidT D L) n 0 n
 have h:sumD (dblT D L n) 0 n=_:=h
 rw [h]
 refine cnt_congr fun i hi=>decide_eq_decide.2 ?_
 have h1:=laidT_lt (D:=D) (L:=L) hi
 rw [Nat.zero_add]
 constructor
 · intro g
   apply Classical.byContradiction
   intro h0
   rw [laidT_none (by omega)] at g
   omega
 · intro g
   have:=laidT_room (L:=L) g
   omega
end Go.Proofs.YtcidobpbepeakaaGreat

namespace Go.Proofs.YtcidobpbepeakaaGreat
structure EnumS (S:Int→Prop) (F:Nat→Int) (m:Nat):Prop where
 rise:∀p q,p < q→q < m→F p < F q
 each:∀x,S x↔∃p,p < m∧F p=x
theorem EnumS.same {S:Int→Prop} {F F':Nat→Int} {m m':Nat} (h:EnumS S F m) (h':EnumS S F' m'):∀p,p < m→p < m'→F p=F' p:=fun p=>by
 induction p using Nat.strongRecOn with
 | ind p ih=>
   intro hp hp'
   obtain ⟨q,hq,e⟩:=(h'.each (F p)).1 ((h.each _).2 ⟨p,hp,rfl⟩)
   obtain ⟨q',hq',e'⟩:=(h.each (F' p)).1 ((h'.each _).2 ⟨p,hp',rfl⟩)
   have g1:p≤q:=Nat.le_of_not_lt fun g=>by
    have g2:=ih q g (by omega) hq
    have g3:=h.rise q p g hp
    omega
   have g2:p≤q':=Nat.le_of_not_lt fun g=>by
    have g2:=ih q' g hq' (by omega)
    have g3:=h'.rise q' p g hp'
    omega
   rcases Nat.lt_or_eq_of_le g1 with k1 | k1
   · rcases Nat.lt_or_eq_of_le g2 with k2 | k2
     · have:=h'.rise p q k1 hq
       have:=h.rise p q' k2 hq'
       omega
     · subst k2
       exact e'
   · subst k1
     exact e.symm
theorem EnumS.le {S:Int→Prop} {F F':Nat→Int} {m m':Nat} (h:EnumS S F m) (h':EnumS S F' m'):m≤m':=Nat.le_of_not_lt fun g=>by
 obtain ⟨q,hq,e⟩:=(h'.each (F m')).1 ((h.each _).2 ⟨m',g,rfl⟩)
 have g2:=h.same h' q (by omega) hq
 have g3:=h.rise q m' hq g
 omega
theorem EnumS.one {S:Int→Prop} {F F':Nat→Int} {m m':Nat} (h:EnumS S F m) (h':EnumS S F' m'):m=m'∧∀p,p < m→F p=F' p:=by
 have e:=Nat.le_antisymm (h.le h') (h'.le h)
 exact ⟨e,fun p hp=>h.same h' p hp (by omega)⟩
theorem EnumS.congr {S S':Int→Prop} {F:Nat→Int} {m:Nat} (h:EnumS S F m) (he:∀x,S x↔S' x):EnumS S' F m:=⟨h.rise,fun x=>by rw [←he,h.each]⟩
theorem EnumS.none {S:Int→Prop} {F:Nat→Int} (h:∀x,¬S x):EnumS S F 0:=⟨fun p q _ h=>absurd h (by omega),fun x=>⟨fun g=>absurd g (h x),fun ⟨p,hp,_⟩=>absurd hp (by omega)⟩⟩
theorem EnumS.at_most {S:Int→Prop} {F:Nat→Int} {m n:Nat} {V:Nat→Int} (h:EnumS S F m) (hS:∀x,S x→∃j,j < n∧V j=x):m≤n:=by
 have key:∀(n:Nat) (m:Nat) (F V:Nat→Int),(∀p q,p < q→q < m→F p < F q)→(∀p,p < m→∃j,j < n∧V j=F p)→m≤n:=by
  intro n
  induction n with
  | zero=>
    intro m F V _ h2
    rcases Nat.eq_zero_or_pos m with e | e
    · omega
    · obtain ⟨j,hj,_⟩:=h2 0 e
      omega
  | succ n ih=>
    intro m F V h1 h2
    by_cases g:∃p,p < m∧F p=V n
    · obtain ⟨p,hp,e⟩:=g
      have:=ih (m - 1) (fun j=>if j < p then F j else F (j+1)) V (fun i j hij hj=>by
       show (if i < p then F i else F (i+1)) < (if j < p then F j else F (j+1))
       split <;> split
       · exact h1 _ _ hij (by omega)
       · exact h1 _ _ (by omega) (by omega)
       · omega
       · exact h1 _ _ (by omega) (by omega)) (fun j hj=>by
       show ∃k,k < n∧V k=(if j < p then F j else F (j+1))
       split
       · obtain ⟨k,hk,ek⟩:=h2 j (by omega)
         rcases Nat.lt_or_eq_of_le (Nat.le_of_lt_succ hk) with q | q
         · exact ⟨k,q,ek⟩
         · subst q
           have:=h1 j p (by assumption) hp
           omega
       · obtain ⟨k,hk,ek⟩:=h2 (j+1) (by omega)
         rcases Nat.lt_or_eq_of_le (Nat.le_of_lt_succ hk) with q | q
         · exact ⟨k,q,ek⟩
         · subst q
           have:=h1 p (j+1) (by omega) (by omega)
           omega)
      omega
    · have:=ih m F V h1 (fun p hp=>by
       obtain ⟨k,hk,ek⟩:=h2 p hp
       rcases Nat.lt_or_eq_of_le (Nat.le_of_lt_succ hk) with q | q
       · exact ⟨k,q,ek⟩
       · subst q
         exact absurd ⟨p,hp,ek.symm⟩ g)
      omega
 exact key n m F V h.rise (fun p hp=>hS _ ((h.each _).2 ⟨p,hp,rfl⟩))
def insE (F:Nat→Int) (at_:Nat) (x:Int):Nat→Int:=fun j=>if j < at_ then F j else if j=at_ then x else F (j - 1)
structure AtF (F:Nat→Int) (m at_:Nat) (x:Int):Prop where
 le:at_≤m
 low:∀p,p < at_→F p < x
 high:at_ < m→x≤F at_
theorem EnumS.old {S S':Int→Prop} {F:Nat→Int} {m p:Nat} {x:Int} (h:EnumS S F m) (hS:∀y,S' y↔S y∨y=x) (hp:p < m) (he:F p=x):EnumS S' F m:=h.congr fun y=>by
 rw [hS]
 exact ⟨.inl,fun g=>g.elim id fun g=>by rw [g];exact (h.each x).2 ⟨p,hp,he⟩⟩
theorem EnumS.ins {S S':Int→Prop} {F:Nat→Int} {m at_:Nat} {x:Int} (h:EnumS S F m) (hS:∀y,S' y↔S y∨y=x) (ha:AtF F m at_ x) (hn:at_ < m→F at_≠x):EnumS S' (insE F at_ x) (m+1):=by
 have hup:∀p,at_≤p→p < m→x < F p:=fun p h1 h2=>by
  have g1:=ha.high (by omega)
  have g2:=hn (by omega)
  rcases Nat.lt_or_eq_of_le h1 with e | e
  · have:=h.rise at_ p e h2
    omega
  · subst e
    omega
 have hle:=ha.le
 refine ⟨fun p q h1 h2=>?_,fun y=>?_⟩
 · unfold insE
   by_cases a1:p < at_
   · rw [if_pos a1]
     by_cases a2:q < at_
     · rw [if_pos a2]
       exact h.rise p q h1 (by omega)
     · rw [if_neg a2]
       by_cases a3:q=at_
       · rw [if_pos a3]
         exact ha.low p a1
       · rw [if_neg a3]
         have:=ha.low p a1
         have:=hup (q - 1) (by omega) (by omega)
         omega
   · rw [if_neg a1,if_neg (show ¬q < at_ by omega),if_neg (show ¬q=at_ by omega)]
     by_cases a3:p=at_
     · rw [if_pos a3]
       exact hup (q - 1) (by omega) (by omega)
     · rw [if_neg a3]
       exact h.rise _ _ (by omega) (by omega)
 · rw [hS,h.each]
   constructor
   · rintro (⟨p,hp,e⟩ | e)
     · by_cases a1:p < at_
       · exact ⟨p,by omega,by unfold insE;rw [if_pos a1];exact e⟩
       · exact ⟨p+1,by omega,by unfold insE;rw [if_neg (by omega),if_neg (by omega)];exact e⟩
     · exact ⟨at_,by omega,by unfold insE;rw [if_neg (by omega),if_pos rfl];exact e.symm⟩
   · rintro ⟨p,hp,e⟩
     unfold insE at e
     by_cases a1:p < at_
     · rw [if_pos a1] at e
       exact .inl ⟨p,by omega,e⟩
     · rw [if_neg a1] at e
       by_cases a3:p=at_
       · rw [if_pos a3] at e
         exact .inr e.symm
       · rw [if_neg a3] at e
         exact .inl ⟨p - 1,by omega,e⟩
def RngS (V:Nat→Int) (a b:Int) (n:Nat):Int→Prop:=fun x=>∃j:Nat,j < n∧a≤(j:Int)∧(j:Int) < b∧V j=x
theorem RngS.out_ {V:Nat→Int} {a b:Int} {n:Nat} (h:¬(a≤(n:Int)∧(n:Int) < b)) (x:Int):RngS V a b n x↔RngS V a b (n+1) x:=by
 constructor
 · rintro ⟨j,hj,h1,h2,h3⟩
   exact ⟨j,by omega,h1,h2,h3⟩
 · rintro ⟨j,hj,h1,h2,h3⟩
   rcases Nat.lt_or_eq_of_le (Nat.le_of_lt_succ hj) with q | q
   · exact ⟨j,q,h1,h2,h3⟩
   · subst q
     exact absurd ⟨h1,h2⟩ h
theorem RngS.in_ {V:Nat→Int} {a b:Int} {n:Nat} (h1:a≤(n:Int)) (h2:(n:Int) < b) (x:Int):RngS V a b (n+1) x↔RngS V a b n x∨x=V n:=by
 constructor
 · rintro ⟨j,hj,g1,g2,g3⟩
   rcases Nat.lt_or_eq_of_le (Nat.le_of_lt_succ hj) with q | q
   · exact .inl ⟨j,q,g1,g2,g3⟩
   · subst q
     exact .inr g3.symm
 · rintro (⟨j,hj,g⟩ | g)
   · exact ⟨j,by omega,g⟩
   · exact ⟨n,by omega,h1,h2,g.symm⟩
theorem RngS.most {V:Nat→Int} {a b:Int} {n m:Nat} {F:Nat→Int} (h:EnumS (RngS V a b n) F m):m≤n:=h.at_most fun _ ⟨j,hj,_,_,e⟩=>⟨j,hj,e⟩
end Go.Proofs.YtcidobpbepeakaaGreat
