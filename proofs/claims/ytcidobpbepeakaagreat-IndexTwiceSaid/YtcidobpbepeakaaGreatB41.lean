/- Texts of ours, joined: BstStep. -/
import Derived.Test.YtcidobpbepeakaaGreatB40
set_option maxRecDepth 1000000
set_option maxHeartbeats 6400000
namespace Go.Proofs.YtcidobpbepeakaaGreat
open Go.RowKit
open Pl (cnt)
section
variable {w w':World} {B H H' g gl cl n W A Z m:Nat} {lv v:Value} {V:Nat→Int} {Q:Nat→Pt}
theorem PushPost.from_ {w1:World} {x:Pt} (h:PushPost w1 B g lv v m Q x w') (hb:Below w.heap.size w w1):PushPost w B g lv v m Q x w':=by
 obtain ⟨v',Q',h1,h2,h3,h4,h5⟩:=h
 exact ⟨v',Q',h1,h2,h3,(OffB.of_below (F:=FT g v) hb).trans h4 (fun k hk=>.inl hk),fun k hk=>(h5 k hk).imp id fun h=>Nat.le_trans hb.size h⟩
theorem bsLay_yes (h:Hp w B g lv v m Q) (hB:B≤w.heap.size) (hm:m < 4194304) (hok:∀i,i < m→Fine (Q i)) (hh:IsHp Q m) (x:Pt) (hx:Fine x) (hab:x.a < x.b):Calls Tryz.prog 104 #[.pointer (some ⟨g,0,none⟩),ptV x] w fun e w'=>e=.returned (.tuple #[])∧PushPost w B g lv v m Q x w':=by
 have HPu:Hid (∀w1,Below w.heap.size w w1→Calls Tryz.prog 151 #[.iface 194 (.pointer (some ⟨g,1,none⟩)),.iface 167 (ptV x)] w1 fun e w'=>e=.returned (.tuple #[])∧PushPost w B g lv v m Q x w'):=Lib.hid fun w1 hb=>(hpPush_any (h.below hb) (Nat.le_trans hB hb.size) hm hok hh x hx).mono fun e w' ⟨h1,h2⟩=>⟨h1,h2.from_ hb⟩
 clear h hB hm hok hh hx
 obtain ⟨l,e,a,b⟩:=x
 dsimp only at hab
 unfold ptV at*
 dsimp only at*
 have habi:(a:Int) < (b:Int):=by omega
 have hbd:=below_drew' ((Below.refl w.heap.size w).alloc (Nat.le_refl _) (.cells #[.int .i64 (l:Int),.int .i64 e,.int .i64 (a:Int),.int .i64 (b:Int)] 167))
 have HP1:=Lib.hid (HPu.out _ hbd)
 obtain ⟨x,hx⟩:∃x:Pt,(⟨l,e,a,b⟩:Pt)=x:=⟨_,rfl⟩
 rw [hx] at HP1 ⊢
 clear hx HPu hbd
 go_enter Tryz.func104,Tryz.ntmps104
 go_wp2_with fail
 go_region_with (go_at_call 151;(with_reducible refine HP1.out.mono ?_);rintro e1 w1 ⟨rfl,hp1⟩)
 all_goals
  go_wp2_with fail
  go_returns
  exact ⟨rfl,hp1⟩
theorem bsLay_no (w:World) (x:Pt) (hab:¬x.a < x.b):Calls Tryz.prog 104 #[.pointer (some ⟨g,0,none⟩),ptV x] w fun e w'=>e=.returned (.tuple #[])∧Below w.heap.size w w':=by
 obtain ⟨l,e,a,b⟩:=x
 dsimp only at hab
 unfold ptV
 dsimp only
 have habi:¬(a:Int) < (b:Int):=by omega
 go_enter Tryz.func104,Tryz.ntmps104
 go_wp2_with fail
 go_returns
 exact ⟨rfl,(Below.refl _ _).alloc (Nat.le_refl _) _⟩
theorem Vc.keepX {w1:World} {gv gw:Nat} {av v1:Value} {A1:Option Addr} {n1 c1:Nat} {ws:List Nat} {f:Nat→Bool} (h:Vc w1 B gv gw av n ws f) (hl:Lies w1 g 163 [.slice A1 n1 c1,v1]) (hs:w1.heap.size≤w.heap.size) (hb:∀k,B≤k→k < w1.heap.size→k≠g→w.heap[k]?=w1.heap[k]?):Vc w B gv gw av n ws f:=
 ⟨h.head.same (hb gv h.lo.1 h.head.lt (h.head.unlike hl (by decide))),h.body.same (hb gw h.lo.2 h.body.lt (h.body.unlike hl (by decide))),fun k hk=>by
   obtain ⟨ga,c,e,h1,h2,h3⟩:=h.row k hk
   obtain ⟨ga',c',e',_,_,h3'⟩:=h.row 0 (by omega)
   rw [e] at e'
   injection e' with e1 _ _
   injection e1 with e1
   injection e1 with e1 _ _
   subst e1
   have hne:ga≠g:=fun e=>by
    rw [e,hl.cell 0] at h3'
    injection h3' with h3'
    cases h3'
   exact ⟨ga,c,e,h1,Nat.lt_of_lt_of_le h2 hs,(cell_of_heap (hb ga h1 h2 hne)).trans h3⟩,h.bits,h.lo⟩
structure Sr (w:World) (B H H' g gl cl n W A Z:Nat) (V:Nat→Int) (v:Value) (m:Nat) (Q:Nat→Pt):Prop where
 hp:Hp w H' g (.slice (some ⟨gl,0,none⟩) W cl) v m Q
 heap:IsHp Q m
 base:∃w1,Lvs w1 B g gl cl n W V∧w1.heap.size=H'∧∀k,B≤k→k < H'→k≠g→w.heap[k]?=w1.heap[k]?
 ord:B≤H∧H≤g∧g < H'∧H≤gl∧gl < H'∧gl≠g∧H'≤w.heap.size
 dim:n≤4194303∧1≤W∧W≤22∧A≤Z∧Z≤n
 ok:∀j,j < m→PtOk V n W A Z (Q j)
 sum:((takeQ Q m).map fun x=>x.b - x.a).sum≤n
theorem Sr.lvs {g:Nat} (S:Sr w B H H' g gl cl n W A Z V v m Q):Lvs w B g gl cl n W V:=by
 obtain ⟨w1,h1,h2,h3⟩:=S.base
 obtain ⟨o1,o2,o3,o4,o5,o6,o7⟩:=S.ord
 obtain ⟨v1,hl⟩:=h1.head
 refine ⟨⟨v,S.hp.head⟩,h1.cap,fun k hk=>?_,Nat.lt_of_lt_of_le o5 o7⟩
 obtain ⟨gv,gw,av,ws,q1,q2⟩:=h1.row k hk
 exact ⟨gv,gw,av,ws,(cell_of_heap (h3 gl (by omega) o5 o6)).trans q1,q2.keepX hl (by omega) fun k a b c=>h3 k a (by omega) c⟩
theorem Sr.fine (S:Sr w B H H' g gl cl n W A Z V v m Q):∀j,j < m→Fine (Q j):=fun j hj=>by
 have h1:=S.ok j hj
 have h2:=h1.room
 have h3:=h1.any
 have h4:=S.dim.1
 unfold Fine
 omega
theorem sum_many {L:List Pt} (h:∀x∈L,x.a < x.b):L.length≤(L.map fun x=>x.b - x.a).sum:=by
 induction L with
 | nil=>exact Nat.le_refl _
 | cons x L ih=>
   have h1:=h x (List.mem_cons_self ..)
   have h2:=ih fun y hy=>h y (List.mem_cons_of_mem _ hy)
   rw [List.length_cons,List.map_cons,List.sum_cons]
   omega
theorem Sr.few (S:Sr w B H H' g gl cl n W A Z V v m Q):m≤n:=by
 have h1:=sum_many (L:=takeQ Q m) fun x hx=>by
  obtain ⟨j,hj,e⟩:=takeQ_mem.1 hx
  rw [←e]
  exact (S.ok j hj).any
 rw [takeQ_len] at h1
 exact Nat.le_trans h1 S.sum
theorem Sr.turn {v':Value} {m':Nat} {Q':Nat→Pt} (S:Sr w B H H' g gl cl n W A Z V v m Q) (ho:OffB (FT g v) w w') (hp:Hp w' H' g (.slice (some ⟨gl,0,none⟩) W cl) v' m' Q') (hh:IsHp Q' m') (hok:∀j,j < m'→PtOk V n W A Z (Q' j)) (hsum:((takeQ Q' m').map fun x=>x.b - x.a).sum≤n):Sr w' B H H' g gl cl n W A Z V v' m' Q':=by
 obtain ⟨w1,h1,h2,h3⟩:=S.base
 obtain ⟨o1,o2,o3,o4,o5,o6,o7⟩:=S.ord
 refine ⟨hp,hh,⟨w1,h1,h2,fun k a b c=>(ho.block k (by omega) (fun hk=>?_)).trans (h3 k a b c)⟩,⟨o1,o2,o3,o4,o5,o6,Nat.le_trans o7 ho.size⟩,S.dim,hok,hsum⟩
 rcases hk with hk | hk
 · exact c hk
 · have:=(S.hp.row.lt k hk).1
   omega
theorem Sr.below (S:Sr w B H H' g gl cl n W A Z V v m Q) (hb:Below w.heap.size w w'):Sr w' B H H' g gl cl n W A Z V v m Q:=S.turn (OffB.of_below hb) (S.hp.below hb) S.heap S.ok S.sum
end
end Go.Proofs.YtcidobpbepeakaaGreat
namespace Go.Proofs.YtcidobpbepeakaaGreat
open Go.RowKit
open Pl (cnt)
def stepV (l c:Int) (p q:Bool):Value:=.tuple #[.agg #[.int .i64 l,.int .i64 c],.bool p,.bool q]
section
variable {w w':World} {B H H' g gl cl n W A Z m:Nat} {lv v:Value} {V:Nat→Int} {Q:Nat→Pt}
theorem run_assert_any (u:Value) (w:World):(Instr.typeAssert (.iface 167 u) 20 167 false).run Tryz.prog w=.ok u w:=by kernel_rfl
theorem owns_none4 {w:World} {B:Nat} {t:TypeId} {v:Value} {cs:List Value} (h:w.ownsRow B t 4 v 0 cs):∃A c,v=.slice A 0 c:=by
 rcases h.2 with ⟨e,_⟩ | ⟨g,cap,cur,e,_⟩
 · exact ⟨_,_,e⟩
 · exact ⟨_,_,e⟩
theorem bsStep_none (h:Hp w B g lv v 0 Q):Calls Tryz.prog 106 #[.pointer (some ⟨g,0,none⟩)] w fun e w'=>e=.returned (stepV 0 0 false false)∧Below w.heap.size w w':=by
 obtain ⟨A,c,rfl⟩:=owns_none4 h.row
 have hc1:w.cell? ⟨g,1,none⟩=some (.slice A 0 c):=h.head.cell 1
 have lg:=h.head.lt
 unfold stepV
 clear h
 go_enter Tryz.func106,Tryz.ntmps106
 go_wp2_with fail
 refine bodyPost_ret (v:=.tuple #[.agg #[.int .i64 0,.int .i64 0],.bool false,.bool false]) (by simp [results,Tryz.results106,go_sem]) rfl ?_
 exact ⟨rfl,(Below.refl _ _).alloc (Nat.le_refl _) _⟩
theorem owns_sameK {w w':World} {B s n:Nat} {t:TypeId} {v:Value} {cs:List Value} (h:w.ownsRow B t s v n cs) (e:∀k,v.ownBlock=some k→w'.heap[k]?=w.heap[k]?):w'.ownsRow B t s v n cs:=by
 refine ⟨h.1,?_⟩
 rcases h.2 with ⟨e1,h2⟩ | ⟨g,cap,cur,e1,h1,h2,h3⟩
 · exact .inl ⟨e1,h2⟩
 · exact .inr ⟨g,cap,cur,e1,h1,(e g (by rw [e1];rfl)).trans h2,h3⟩
theorem Hp.off {F:Nat→Prop} (h:Hp w B g lv v m Q) (ho:OffB F w w') (hF:∀k,FT g v k→¬F k):Hp w' B g lv v m Q:=⟨ho.lies h.head (hF g (.inl rfl)),owns_sameK h.row fun k hk=>ho.block k (h.row.lt k hk).2 (hF k (.inr hk))⟩
theorem OffB.of_low {b:Nat} (h:Below b w w'):OffB (fun k=>b≤k) w w':=⟨h.os,h.tape,h.output,h.size,fun k _ hn=>h.block k (by omega)⟩
theorem Sr.gone {v':Value} {Q':Nat→Pt} (S:Sr w B H H' g gl cl n W A Z V v (m+1) Q) (ho:OffB (FT g v) w w') (hp:Hp w' H' g (.slice (some ⟨gl,0,none⟩) W cl) v' m Q') (hh:IsHp Q' m) (hT:(takeQ Q (m+1)).Perm (Q 0::takeQ Q' m)):Sr w' B H H' g gl cl n W A Z V v' m Q'∧(Q 0).b - (Q 0).a+((takeQ Q' m).map fun x=>x.b - x.a).sum≤n:=by
 have hs:=S.sum
 rw [(hT.map fun x=>x.b - x.a).sum_nat,List.map_cons,List.sum_cons] at hs
 refine ⟨S.turn ho hp hh (fun j hj=>?_) (by omega),hs⟩
 obtain ⟨k,hk,e⟩:=takeQ_mem.1 (hT.mem_iff.2 (List.mem_cons_of_mem _ (takeQ_mem.2 ⟨j,hj,rfl⟩)))
 rw [←e]
 exact S.ok k hk
theorem bsStep_tell (S:Sr w B H H' g gl cl n W A Z V v (m+1) Q) (hW:(Q 0).lv=W):Calls Tryz.prog 106 #[.pointer (some ⟨g,0,none⟩)] w fun e w'=>e=.returned (stepV (Q 0).le (((Q 0).b - (Q 0).a:Nat):Int) true true)∧∃v' Q',Sr w' B H H' g gl cl n W A Z V v' m Q'∧(takeQ Q (m+1)).Perm (Q 0::takeQ Q' m)∧OffB (FT g v) w w'∧(∀k,FT g v' k→FT g v k∨w.heap.size≤k):=by
 rcases owns_slice4 S.hp.row with ⟨h0,_⟩ | ⟨gq,c,rfl,hg1,hg2⟩
 · omega
 have hc1:w.cell? ⟨g,1,none⟩=some (.slice (some ⟨gq,0,none⟩) (m+1) c):=S.hp.head.cell 1
 have lg:=S.hp.head.lt
 have hmn:=S.few
 have hdim:=S.dim
 have hfx:=S.fine 0 (Nat.succ_pos m)
 have hb0:Below w.heap.size w (w.alloc (.cells #[.int .i64 0,.int .i64 0] 60)):=(Below.refl _ _).alloc (Nat.le_refl _) _
 have HPop:=Lib.hid (hpPop_any (S.hp.below hb0) (by omega) S.fine S.heap)
 have HL0:=Lib.hid (lies_new w 60 [.int .i64 0,.int .i64 0])
 have HS:=Lib.hid S
 have HB0:=Lib.hid hb0
 have HT:Hid (∀Q':Nat→Pt,(takeQ Q (m+1)).Perm (Q 0::takeQ Q' m)→(takeQ Q (m+1)).Perm (Q 0::takeQ Q' m)):=Lib.hid fun _ h=>h
 obtain ⟨x,hx⟩:∃x,Q 0=x:=⟨_,rfl⟩
 have HX:=Lib.hid hx
 rw [hx] at HPop hW hfx ⊢
 have hta:=run_assert_any (ptV x)
 have HZ:=Lib.hid (hpSize_any x hfx.1 hfx.2)
 clear hx S hb0
 have HNF:Hid (¬FT g (.slice (some ⟨gq,0,none⟩) (m+1) c) w.heap.size):=Lib.hid fun h=>by
  rcases h with h | h
  · omega
  · have h:some gq=some w.heap.size:=h
    injection h with h
    omega
 obtain ⟨l,e,a,b⟩:=x
 unfold ptV at*
 dsimp only at*
 subst hW
 unfold stepV
 have hab:a≤b:=hfx.1
 generalize b - a=sz at HZ ⊢
 clear hfx hg1 hmn
 go_enter Tryz.func106,Tryz.ntmps106
 go_wp2_with (first
  | (go_at_call 152;(with_reducible refine HPop.out.mono ?_);rintro e1 w1 ⟨rfl,v1,Q1,hp1,hh1,ht1,ho1,hv1⟩;have hl1:=ho1.lies HL0.out HNF.out;have H1:=Lib.hid (show Hp w1 H' g (.slice (some ⟨gl,0,none⟩) l cl) v1 m Q1∧IsHp Q1 m∧(takeQ Q (m+1)).Perm (Q 0::takeQ Q1 m)∧OffB (FT g (.slice (some ⟨gq,0,none⟩) (m+1) c)) _ w1∧v1.ownBlock=(Value.slice (some ⟨gq,0,none⟩) (m+1) c).ownBlock from ⟨hp1,hh1,ht1,ho1,hv1⟩);have k0:w1.cell? ⟨g,0,none⟩=some (.slice (some ⟨gl,0,none⟩) l cl):=hp1.head.cell 0;have lg1:=hp1.head.lt;have r0:w1.cell? ⟨w.heap.size,0,none⟩=some (.int .i64 0):=hl1.cell 0;have r1:w1.cell? ⟨w.heap.size,1,none⟩=some (.int .i64 0):=hl1.cell 1;have s0:=hl1.free 0;have s1:=hl1.free 1;have hl1lt:=hl1.lt;have HLl:=Lib.hid hl1;clear hp1 hh1 ht1 ho1 hv1 hl1))
 obtain ⟨b0,hb0⟩:∃b0,w.heap.size=b0:=⟨_,rfl⟩
 obtain ⟨b1,hb1⟩:∃b1,w1.heap.size=b1:=⟨_,rfl⟩
 have hb01:b0 < b1:=by omega
 have HBd:Hid (w.heap.size=b0∧w1.heap.size=b1):=Lib.hid ⟨hb0,hb1⟩
 rw [hb0] at hl1lt HLl
 rw [hb0,hb1]
 have HW2:Hid (Lies (w1.alloc (.cells #[.int .i64 (l:Int),.int .i64 e,.int .i64 (a:Int),.int .i64 (b:Int)] 167)) b1 167 [.int .i64 (l:Int),.int .i64 e,.int .i64 (a:Int),.int .i64 (b:Int)]∧Lies (w1.alloc (.cells #[.int .i64 (l:Int),.int .i64 e,.int .i64 (a:Int),.int .i64 (b:Int)] 167)) b0 60 [.int .i64 0,.int .i64 0]∧Below w1.heap.size w1 (w1.alloc (.cells #[.int .i64 (l:Int),.int .i64 e,.int .i64 (a:Int),.int .i64 (b:Int)] 167))):=Lib.hid ⟨hb1▸lies_new w1 167 [.int .i64 (l:Int),.int .i64 e,.int .i64 (a:Int),.int .i64 (b:Int)],HLl.out.alloc _,(Below.refl _ _).alloc (Nat.le_refl _) _⟩
 have k2:(w1.alloc (.cells #[.int .i64 (l:Int),.int .i64 e,.int .i64 (a:Int),.int .i64 (b:Int)] 167)).cell? ⟨g,0,none⟩=some (.slice (some ⟨gl,0,none⟩) l cl):=(HW2.out.2.2.cell (p:=⟨g,0,none⟩) lg1).trans k0
 generalize w1.alloc (.cells #[.int .i64 (l:Int),.int .i64 e,.int .i64 (a:Int),.int .i64 (b:Int)] 167)=W2 at HW2 k2 ⊢
 have k3:W2.cell? ⟨b1,0,none⟩=some (.int .i64 (l:Int)):=HW2.out.1.cell 0
 clear hb0 hb1 r0 r1 s0 s1 k0 HLl hta HPop
 go_upto_region 4 with (fail)
 go_cut [31] (fun s wx=>s=.bool true∧wx=W2.drewN 1)
 case first=>
  go_wp2_with fail
  go_region
  all_goals
   go_wp2_with fail
   go_meet
   exact ⟨by simp,rfl⟩
 case rest=>
  rename World=>W3
  obtain ⟨rfl,hW3⟩:=hcut
  have HL1:Hid (Lies W3 b1 167 [.int .i64 (l:Int),.int .i64 e,.int .i64 (a:Int),.int .i64 (b:Int)]):=Lib.hid (hW3▸HW2.out.1.drewN 1)
  have HL2:Hid (Lies W3 b0 60 [.int .i64 0,.int .i64 0]):=Lib.hid (hW3▸HW2.out.2.1.drewN 1)
  have HB3:Hid (Below w1.heap.size w1 W3):=Lib.hid (hW3▸below_drewN' HW2.out.2.2 1)
  clear k2 k3 HW2 hW3
  have hbd0:=below_drew' (Below.refl b0 W3)
  have HSz:=Lib.hid (HZ.out W3.drew)
  have hlt0:=HL2.out.lt
  have hlt1:=HL1.out.lt
  have hne:b1≠b0:=by omega
  go_upto_region 5 with (fail)
  go_cut [3,4] (fun s3 s4 wx=>s3=.bool true∧s4=.bool true∧Lies wx b0 60 [.int .i64 e,.int .i64 (sz:Int)]∧Below b0 W3 wx)
  case first=>
   go_region_held3 (fun w'=>(w'.cell? ⟨b1,0,none⟩=some (.int .i64 (l:Int))∧w'.cell? ⟨b1,1,none⟩=some (.int .i64 e)∧w'.cell? ⟨b1,2,none⟩=some (.int .i64 (a:Int))∧w'.cell? ⟨b1,3,none⟩=some (.int .i64 (b:Int)))∧Below b0 W3 w')
    ((first
      | exact ⟨⟨HL1.out.cell 0,HL1.out.cell 1,HL1.out.cell 2,HL1.out.cell 3⟩,hbd0⟩
      | exact HS1.out
      | exact HS2.out.1))
    (first
      | (go_at_call 153;(with_reducible refine HSz.out.mono ?_);rintro e1 x1 ⟨rfl,hx1⟩;have hx2:=hx1.mono (Nat.le_of_lt hlt0);have hM1:=HL1.out.drew.below hx1 hlt1;have hM0:=HL2.out.drew.below hx1 hlt0;have c0:x1.cell? ⟨b0,0,none⟩=some (.int .i64 0):=hM0.cell 0;have c1:x1.cell? ⟨b0,1,none⟩=some (.int .i64 0):=hM0.cell 1;have f0:=hM0.free 0;have f1:=hM0.free 1;have HS1:Hid ((x1.cell? ⟨b1,0,none⟩=some (.int .i64 (l:Int))∧x1.cell? ⟨b1,1,none⟩=some (.int .i64 e)∧x1.cell? ⟨b1,2,none⟩=some (.int .i64 (a:Int))∧x1.cell? ⟨b1,3,none⟩=some (.int .i64 (b:Int)))∧Below b0 W3 x1):=Lib.hid ⟨⟨hM1.cell 0,hM1.cell 1,hM1.cell 2,hM1.cell 3⟩,hbd0.trans hx2⟩;have HS2:Hid (((((x1.setCell ⟨b0,0,none⟩ (.int .i64 e)).setCell ⟨b0,1,none⟩ (.int .i64 (sz:Int))).cell? ⟨b1,0,none⟩=some (.int .i64 (l:Int))∧((x1.setCell ⟨b0,0,none⟩ (.int .i64 e)).setCell ⟨b0,1,none⟩ (.int .i64 (sz:Int))).cell? ⟨b1,1,none⟩=some (.int .i64 e)∧((x1.setCell ⟨b0,0,none⟩ (.int .i64 e)).setCell ⟨b0,1,none⟩ (.int .i64 (sz:Int))).cell? ⟨b1,2,none⟩=some (.int .i64 (a:Int))∧((x1.setCell ⟨b0,0,none⟩ (.int .i64 e)).setCell ⟨b0,1,none⟩ (.int .i64 (sz:Int))).cell? ⟨b1,3,none⟩=some (.int .i64 (b:Int)))∧Below b0 W3 ((x1.setCell ⟨b0,0,none⟩ (.int .i64 e)).setCell ⟨b0,1,none⟩ (.int .i64 (sz:Int))))∧Lies ((x1.setCell ⟨b0,0,none⟩ (.int .i64 e)).setCell ⟨b0,1,none⟩ (.int .i64 (sz:Int))) b0 60 [.int .i64 e,.int .i64 (sz:Int)]):=Lib.hid (by have X:=(hM1.far (p:=⟨b0,0,none⟩) hne (.int .i64 e)).far (p:=⟨b0,1,none⟩) hne (.int .i64 (sz:Int));exact ⟨⟨⟨X.cell 0,X.cell 1,X.cell 2,X.cell 3⟩,(HS1.out.2.setCell (p:=⟨b0,0,none⟩) (Nat.le_refl _) _).setCell (p:=⟨b0,1,none⟩) (Nat.le_refl _) _⟩,(hM0.put 0 _).put 1 _⟩)))
   all_goals
    go_wp2_with fail
    go_meet
    exact ⟨rfl,rfl,HS2.out.2,HS2.out.1.2⟩
  case rest=>
   obtain ⟨rfl,rfl,h1,h2⟩:=hcut
   have y1:wc.cell? ⟨b0,0,none⟩=some (.int .i64 e):=h1.cell 0
   have y2:wc.cell? ⟨b0,1,none⟩=some (.int .i64 (sz:Int)):=h1.cell 1
   clear hbd0
   go_wp2_with fail
   refine bodyPost_ret (v:=.tuple #[.agg #[.int .i64 e,.int .i64 (sz:Int)],.bool true,.bool true]) (by simp [results,Tryz.results106,go_sem,y1,y2]) rfl ?_
   obtain ⟨p1,p2,p3,p4,p5⟩:=H1.out
   have hlow:∀k,FT g v1 k→k < b0:=fun k hk=>by
    have e0:=HBd.out.1
    rcases hk with hk | hk
    · omega
    · rw [p5] at hk
      have hk:some gq=some k:=hk
      injection hk with hk
      omega
   have q1:=(p1.below HB3.out).off (OffB.of_low h2) fun k hk h=>by have:=hlow k hk;omega
   have o1:=(((OffB.of_below (F:=FT g (.slice (some ⟨gq,0,none⟩) (m+1) c)) HB0.out).trans p4 (fun k hk=>.inl hk)).trans (OffB.of_below (F:=fun _=>False) HB3.out) (fun k h=>h.elim)).trans (OffB.of_low h2) (fun k h=>.inr (by rw [HBd.out.1];exact h))
   obtain ⟨s1,_⟩:=HS.out.gone o1 q1 p2 p3
   exact ⟨rfl,v1,Q1,s1,HX.out▸p3,o1,fun k hk=>.inl (hk.imp id fun h=>by rw [←p5];exact h)⟩
end
end Go.Proofs.YtcidobpbepeakaaGreat
namespace Go.Proofs.YtcidobpbepeakaaGreat
open Go.RowKit
open Pl (cnt)
noncomputable def laidH (V:Nat→Int) (n W:Nat) (x:Pt):Nat→List Pt
 | 0=>[]
 | c+1=>laidH V n W x c++laidQ V n W x c
section
variable {w w':World} {B H H' g gl cl n W A Z m:Nat} {lv v:Value} {V:Nat→Int} {Q:Nat→Pt}
theorem bsHalf_any (h:Lvs w B g gl cl n W V) (hn:n≤4194303) (hW:W≤22) {x:Pt} (ok:PtOk V n W A Z x) (hx:x.lv < W) {c:Nat} (hc:c < 2):Calls Tryz.prog 154 #[.pointer (some ⟨g,0,none⟩),ptV x,.int .i64 (c:Int)] w fun e w'=>e=.returned (ptV (halfQ V n W x c))∧Below w.heap.size w w':=by
 have hr:=ok.room
 have ha:=ok.any
 have hlow:=ok.low
 by_cases e:c=0
 · subst e
   have h2:=bsHalf_zero h hn hW x hx (by omega) hr
   have e2:halfQ V n W x 0=⟨x.lv+1,x.le,dnB (levBit V n W x.lv) n 0 x.a,dnB (levBit V n W x.lv) n 0 x.b⟩:=by
    unfold halfQ
    rw [show ((0:Nat):Int)=0 from rfl,Int.zero_mul,Int.add_zero]
   rw [e2]
   exact h2
 · obtain rfl:c=1:=by omega
   obtain ⟨q,hq,hq0,hq1,_⟩:=ok.nar
   obtain ⟨q,rfl⟩:∃k:Nat,q=(k:Int):=⟨q.toNat,by omega⟩
   have hqe:x.le=((q*2^(W - x.lv):Nat):Int):=by
    rw [hq]
    exact (Int.natCast_mul q (2^(W - x.lv))▸(congrArg ((q:Int)*·) (Int.natCast_pow 2 (W - x.lv)).symm))
   have hql:q*2^(W - x.lv) < 4194304:=by
    have h1:=hlow.2
    have h2:(2:Int)^W≤4194304:=by
     have h3:(2:Nat)^W≤2^22:=Nat.pow_le_pow_right (by decide) hW
     have h4:((2^W:Nat):Int)=(2:Int)^W:=Int.natCast_pow 2 W
     have h5:(2:Nat)^22=4194304:=by decide
     omega
    omega
   have h2:=bsHalf_one h hn hW x q hqe hql hx (by omega) hr
   have e2:halfQ V n W x 1=⟨x.lv+1,x.le+2^(W - 1 - x.lv),dnB (levBit V n W x.lv) n 1 x.a,dnB (levBit V n W x.lv) n 1 x.b⟩:=by
    unfold halfQ
    rw [show ((1:Nat):Int)=1 from rfl,Int.one_mul]
   rw [e2]
   exact h2
theorem half_sum {x:Pt} (ok:PtOk V n W A Z x) (hAZ:A≤Z) (hZ:Z≤n) (hx:x.lv < W):((halfQ V n W x 0).b - (halfQ V n W x 0).a)+((halfQ V n W x 1).b - (halfQ V n W x 1).a)=x.b - x.a:=by
 rw [←ok.cnt hAZ hZ,←ok.half_cnt hAZ hZ hx (c:=0) (by decide),←ok.half_cnt hAZ hZ hx (c:=1) (by decide),cntP_halves _ (p:=toP W x) (by unfold toP;omega)]
 have e0:toP W (halfQ V n W x 0)=((toP W x).1,(toP W x).2 - 1):=by
  show (x.le+((0:Nat):Int)*_,W - (x.lv+1))=(x.le,W - x.lv - 1)
  rw [show ((0:Nat):Int)=0 from rfl,Int.zero_mul,Int.add_zero,Nat.sub_add_eq]
 have e1:toP W (halfQ V n W x 1)=((toP W x).1+2^((toP W x).2 - 1),(toP W x).2 - 1):=by
  show (x.le+((1:Nat):Int)*_,W - (x.lv+1))=(x.le+2^(W - x.lv - 1),W - x.lv - 1)
  rw [show ((1:Nat):Int)=1 from rfl,Int.one_mul,Nat.sub_add_eq,show W - 1 - x.lv=W - x.lv - 1 by omega]
 rw [e0,e1]
theorem Sr.offb {F:Nat→Prop} (S:Sr w B H H' g gl cl n W A Z V v m Q) (ho:OffB F w w') (hF:∀k,FT g v k→¬F k) (hlow:∀k,F k→H'≤k):Sr w' B H H' g gl cl n W A Z V v m Q:=by
 obtain ⟨w1,h1,h2,h3⟩:=S.base
 obtain ⟨o1,o2,o3,o4,o5,o6,o7⟩:=S.ord
 exact ⟨S.hp.off ho hF,S.heap,⟨w1,h1,h2,fun k a b c=>(ho.block k (by omega) (fun hk=>by have:=hlow k hk;omega)).trans (h3 k a b c)⟩,⟨o1,o2,o3,o4,o5,o6,Nat.le_trans o7 ho.size⟩,S.dim,S.ok,S.sum⟩
structure HvIn (w wr:World) (B H H' g gl cl n W A Z:Nat) (V:Nat→Int) (v:Value) (b0 b1:Nat) (X:Pt) (L:List Pt) (c:Nat) (v':Value) (m':Nat) (Q':Nat→Pt):Prop where
 sr:Sr wr B H H' g gl cl n W A Z V v' m' Q'
 perm:(takeQ Q' m').Perm (L++laidH V n W X c)
 off:OffB (FT g v) w wr
 ft:∀k,FT g v' k→FT g v k∨w.heap.size≤k
 out:∀k,FT g v' k→k≠b0∧k≠b1
 l1:Lies wr b1 167 [.int .i64 (X.lv:Int),.int .i64 X.le,.int .i64 (X.a:Int),.int .i64 (X.b:Int)]
 l0:Lies wr b0 60 [.int .i64 0,.int .i64 0]
 sumL:X.b - X.a+(L.map fun x=>x.b - x.a).sum≤n
theorem laidT_sum {X:Pt} (h:((halfQ V n W X 0).b - (halfQ V n W X 0).a)+((halfQ V n W X 1).b - (halfQ V n W X 1).a)=X.b - X.a) {c:Nat} (hc:c≤2):((laidH V n W X c).map fun x=>x.b - x.a).sum≤X.b - X.a:=by
 have h1:∀c,((laidQ V n W X c).map fun x=>x.b - x.a).sum≤(halfQ V n W X c).b - (halfQ V n W X c).a:=fun c=>by
  unfold laidQ
  split
  · exact Nat.le_refl _
  · exact Nat.zero_le _
 have h2:=h1 0
 have h3:=h1 1
 have hh:c=0∨c=1∨c=2:=by omega
 rcases hh with rfl | rfl | rfl
 · exact Nat.zero_le _
 · show (([]++laidQ V n W X 0).map _).sum≤_
   rw [List.nil_append]
   omega
 · show (([]++laidQ V n W X 0++laidQ V n W X 1).map _).sum≤_
   rw [List.nil_append,List.map_append,List.sum_append]
   omega
section
variable {wr wr':World} {b0 b1 c m':Nat} {X:Pt} {L:List Pt} {v':Value} {Q':Nat→Pt}
theorem HvIn.below (h:HvIn w wr B H H' g gl cl n W A Z V v b0 b1 X L c v' m' Q') (hb:Below wr.heap.size wr wr'):HvIn w wr' B H H' g gl cl n W A Z V v b0 b1 X L c v' m' Q':=
 ⟨h.sr.below hb,h.perm,h.off.trans (OffB.of_below (F:=fun _=>False) hb) (fun _ h=>h.elim),h.ft,h.out,h.l1.below hb h.l1.lt,h.l0.below hb h.l0.lt,h.sumL⟩
theorem HvIn.skip (h:HvIn w wr B H H' g gl cl n W A Z V v b0 b1 X L c v' m' Q') (hn:¬(halfQ V n W X c).a < (halfQ V n W X c).b):HvIn w wr B H H' g gl cl n W A Z V v b0 b1 X L (c+1) v' m' Q':=
 ⟨h.sr,by
   show (takeQ Q' m').Perm (L++(laidH V n W X c++laidQ V n W X c))
   unfold laidQ
   rw [if_neg hn,List.append_nil]
   exact h.perm,h.off,h.ft,h.out,h.l1,h.l0,h.sumL⟩
theorem HvIn.push (h:HvIn w wr B H H' g gl cl n W A Z V v b0 b1 X L c v' m' Q') (hc:c < 2) (hs:((halfQ V n W X 0).b - (halfQ V n W X 0).a)+((halfQ V n W X 1).b - (halfQ V n W X 1).a)=X.b - X.a) (hab:(halfQ V n W X c).a < (halfQ V n W X c).b) (hok:PtOk V n W A Z (halfQ V n W X c)) (hp:PushPost wr H' g (.slice (some ⟨gl,0,none⟩) W cl) v' m' Q' (halfQ V n W X c) wr'):∃v2 Q2,HvIn w wr' B H H' g gl cl n W A Z V v b0 b1 X L (c+1) v2 (m'+1) Q2:=by
 obtain ⟨v2,Q2,h1,h2,h3,h4,h5⟩:=hp
 have hlt0:=h.l0.lt
 have hlt1:=h.l1.lt
 have hperm:(takeQ Q2 (m'+1)).Perm (L++laidH V n W X (c+1)):=by
  show (takeQ Q2 (m'+1)).Perm (L++(laidH V n W X c++laidQ V n W X c))
  unfold laidQ
  rw [if_pos hab,←List.append_assoc]
  exact h3.trans (h.perm.append_right _)
 have hout:∀k,FT g v2 k→k≠b0∧k≠b1:=fun k hk=>by
  rcases h5 k hk with q | q
  · exact h.out k q
  · omega
 have hsum:((takeQ Q2 (m'+1)).map fun x=>x.b - x.a).sum≤n:=by
  rw [(hperm.map fun x=>x.b - x.a).sum_nat,List.map_append,List.sum_append]
  have q1:=laidT_sum hs (show c+1≤2 by omega)
  have q2:=h.sumL
  omega
 refine ⟨v2,Q2,h.sr.turn h4 h1 h2 (fun j hj=>?_) hsum,hperm,(h.off.trans h4 fun k hk=>h.ft k hk),fun k hk=>?_,hout,h4.lies h.l1 fun hk=>(h.out _ hk).2 rfl,h4.lies h.l0 fun hk=>(h.out _ hk).1 rfl,h.sumL⟩
 · have hm:=h3.mem_iff.1 (takeQ_mem.2 ⟨j,hj,rfl⟩)
   rcases List.mem_append.1 hm with q | q
   · obtain ⟨i,hi,e⟩:=takeQ_mem.1 q
     rw [←e]
     exact h.sr.ok i hi
   · rw [List.mem_singleton.1 q]
     exact hok
 · rcases h5 k hk with q | q
   · exact h.ft k q
   · exact .inr (Nat.le_trans h.off.size q)
end
theorem bsStep_half (S:Sr w B H H' g gl cl n W A Z V v (m+1) Q) (hW:(Q 0).lv < W):Calls Tryz.prog 106 #[.pointer (some ⟨g,0,none⟩)] w fun e w'=>e=.returned (stepV 0 0 false true)∧∃v' m' Q' L,Sr w' B H H' g gl cl n W A Z V v' m' Q'∧(takeQ Q (m+1)).Perm (Q 0::L)∧(takeQ Q' m').Perm (L++laidH V n W (Q 0) 2)∧OffB (FT g v) w w'∧(∀k,FT g v' k→FT g v k∨w.heap.size≤k):=by
 rcases owns_slice4 S.hp.row with ⟨h0,_⟩ | ⟨gq,c,rfl,hg1,hg2⟩
 · omega
 have hc1:w.cell? ⟨g,1,none⟩=some (.slice (some ⟨gq,0,none⟩) (m+1) c):=S.hp.head.cell 1
 have lg:=S.hp.head.lt
 have hmn:=S.few
 have hdim:=S.dim
 have hfx:=S.fine 0 (Nat.succ_pos m)
 have hb0:Below w.heap.size w (w.alloc (.cells #[.int .i64 0,.int .i64 0] 60)):=(Below.refl _ _).alloc (Nat.le_refl _) _
 have HPop:=Lib.hid (hpPop_any (S.hp.below hb0) (by omega) S.fine S.heap)
 have HL0:=Lib.hid (lies_new w 60 [.int .i64 0,.int .i64 0])
 have HS:=Lib.hid S
 have HB0:=Lib.hid hb0
 have HT:Hid (∀Q':Nat→Pt,(takeQ Q (m+1)).Perm (Q 0::takeQ Q' m)→(takeQ Q (m+1)).Perm (Q 0::takeQ Q' m)):=Lib.hid fun _ h=>h
 obtain ⟨x,hx⟩:∃x,Q 0=x:=⟨_,rfl⟩
 have HX:=Lib.hid hx
 rw [hx] at HPop hW hfx ⊢
 have hta:=run_assert_any (ptV x)
 have HOK:=Lib.hid (hx▸S.ok 0 (Nat.succ_pos m))
 clear hx S hb0
 have HNF:Hid (¬FT g (.slice (some ⟨gq,0,none⟩) (m+1) c) w.heap.size):=Lib.hid fun h=>by
  rcases h with h | h
  · omega
  · have h:some gq=some w.heap.size:=h
    injection h with h
    omega
 have hWl:x.lv < W:=hW
 have HHf:Hid (∀(w1:World),Lvs w1 B g gl cl n W V→∀c:Nat,c < 2→Calls Tryz.prog 154 #[.pointer (some ⟨g,0,none⟩),ptV x,.int .i64 (c:Int)] w1 fun e w'=>e=.returned (ptV (halfQ V n W x c))∧Below w1.heap.size w1 w'):=Lib.hid fun w1 hl c hc=>bsHalf_any hl hdim.1 hdim.2.2.1 HOK.out hW hc
 have HOKh:Hid (∀c:Nat,c < 2→(halfQ V n W x c).a < (halfQ V n W x c).b→PtOk V n W A Z (halfQ V n W x c)):=Lib.hid fun c hc hab=>HOK.out.half hdim.2.2.2.1 hW hc hab
 have HSm:Hid (((halfQ V n W x 0).b - (halfQ V n W x 0).a)+((halfQ V n W x 1).b - (halfQ V n W x 1).a)=x.b - x.a):=Lib.hid (half_sum HOK.out hdim.2.2.2.1 hdim.2.2.2.2 hW)
 obtain ⟨X,hX⟩:∃X,x=X:=⟨_,rfl⟩
 have HXX:=Lib.hid hX
 obtain ⟨l,e,a,b⟩:=x
 rw [hX] at HHf HOKh HSm HOK HX
 have hpt:ptV X=.agg #[.int .i64 (l:Int),.int .i64 e,.int .i64 (a:Int),.int .i64 (b:Int)]:=by rw [←hX];rfl
 rw [hpt] at HHf
 rw [hX]
 unfold ptV at HPop hta
 dsimp only at*
 unfold stepV
 clear hfx hg1 hX hpt hW
 go_enter Tryz.func106,Tryz.ntmps106
 go_wp2_with (first
  | (go_at_call 152;(with_reducible refine HPop.out.mono ?_);rintro e1 w1 ⟨rfl,v1,Q1,hp1,hh1,ht1,ho1,hv1⟩;have hl1:=ho1.lies HL0.out HNF.out;have H1:=Lib.hid (show Hp w1 H' g (.slice (some ⟨gl,0,none⟩) W cl) v1 m Q1∧IsHp Q1 m∧(takeQ Q (m+1)).Perm (Q 0::takeQ Q1 m)∧OffB (FT g (.slice (some ⟨gq,0,none⟩) (m+1) c)) _ w1∧v1.ownBlock=(Value.slice (some ⟨gq,0,none⟩) (m+1) c).ownBlock from ⟨hp1,hh1,ht1,ho1,hv1⟩);have k0:w1.cell? ⟨g,0,none⟩=some (.slice (some ⟨gl,0,none⟩) W cl):=hp1.head.cell 0;have lg1:=hp1.head.lt;have r0:w1.cell? ⟨w.heap.size,0,none⟩=some (.int .i64 0):=hl1.cell 0;have r1:w1.cell? ⟨w.heap.size,1,none⟩=some (.int .i64 0):=hl1.cell 1;have s0:=hl1.free 0;have s1:=hl1.free 1;have hl1lt:=hl1.lt;have HLl:=Lib.hid hl1;clear hp1 hh1 ht1 ho1 hv1 hl1))
 obtain ⟨b0,hb0⟩:∃b0,w.heap.size=b0:=⟨_,rfl⟩
 obtain ⟨b1,hb1⟩:∃b1,w1.heap.size=b1:=⟨_,rfl⟩
 have hb01:b0 < b1:=by omega
 have HBd:Hid (w.heap.size=b0∧w1.heap.size=b1):=Lib.hid ⟨hb0,hb1⟩
 rw [hb0] at hl1lt HLl
 rw [hb0,hb1]
 have HW2:Hid (Lies (w1.alloc (.cells #[.int .i64 (l:Int),.int .i64 e,.int .i64 (a:Int),.int .i64 (b:Int)] 167)) b1 167 [.int .i64 (l:Int),.int .i64 e,.int .i64 (a:Int),.int .i64 (b:Int)]∧Lies (w1.alloc (.cells #[.int .i64 (l:Int),.int .i64 e,.int .i64 (a:Int),.int .i64 (b:Int)] 167)) b0 60 [.int .i64 0,.int .i64 0]∧Below w1.heap.size w1 (w1.alloc (.cells #[.int .i64 (l:Int),.int .i64 e,.int .i64 (a:Int),.int .i64 (b:Int)] 167))):=Lib.hid ⟨hb1▸lies_new w1 167 [.int .i64 (l:Int),.int .i64 e,.int .i64 (a:Int),.int .i64 (b:Int)],HLl.out.alloc _,(Below.refl _ _).alloc (Nat.le_refl _) _⟩
 have k2:(w1.alloc (.cells #[.int .i64 (l:Int),.int .i64 e,.int .i64 (a:Int),.int .i64 (b:Int)] 167)).cell? ⟨g,0,none⟩=some (.slice (some ⟨gl,0,none⟩) W cl):=(HW2.out.2.2.cell (p:=⟨g,0,none⟩) lg1).trans k0
 generalize w1.alloc (.cells #[.int .i64 (l:Int),.int .i64 e,.int .i64 (a:Int),.int .i64 (b:Int)] 167)=W2 at HW2 k2 ⊢
 have k3:W2.cell? ⟨b1,0,none⟩=some (.int .i64 (l:Int)):=HW2.out.1.cell 0
 clear hb0 hb1 r0 r1 s0 s1 k0 HLl hta HPop
 go_upto_region 4 with (fail)
 go_cut [31] (fun s wx=>s=.bool false∧wx=W2.drewN 1)
 case first=>
  go_wp2_with fail
  go_region
  all_goals
   go_wp2_with fail
   go_meet
   exact ⟨by simp;omega,rfl⟩
 case rest=>
  rename World=>W3
  obtain ⟨rfl,hW3⟩:=hcut
  have HL1:Hid (Lies W3 b1 167 [.int .i64 (l:Int),.int .i64 e,.int .i64 (a:Int),.int .i64 (b:Int)]):=Lib.hid (hW3▸HW2.out.1.drewN 1)
  have HL2:Hid (Lies W3 b0 60 [.int .i64 0,.int .i64 0]):=Lib.hid (hW3▸HW2.out.2.1.drewN 1)
  have HB3:Hid (Below w1.heap.size w1 W3):=Lib.hid (hW3▸below_drewN' HW2.out.2.2 1)
  clear k2 k3 HW2 hW3
  obtain ⟨p1,p2,p3,p4,p5⟩:=H1.out
  have HST:Hid (HvIn w W3 B H H' g gl cl n W A Z V (.slice (some ⟨gq,0,none⟩) (m+1) c) b0 b1 X (takeQ Q1 m) 0 v1 m Q1):=Lib.hid (by
   have hlow:∀k,FT g v1 k→k < b0:=fun k hk=>by
    have e0:=HBd.out.1
    rcases hk with hk | hk
    · omega
    · rw [p5] at hk
      have hk:some gq=some k:=hk
      injection hk with hk
      omega
   have o1:=((OffB.of_below (F:=FT g (.slice (some ⟨gq,0,none⟩) (m+1) c)) HB0.out).trans p4 (fun k hk=>.inl hk)).trans (OffB.of_below (F:=fun _=>False) HB3.out) (fun k h=>h.elim)
   obtain ⟨s1,s2⟩:=HS.out.gone o1 (p1.below HB3.out) p2 p3
   have hXe:=HXX.out
   refine ⟨s1,?_,o1,fun k hk=>.inl (hk.imp id fun h=>by rw [←p5];exact h),fun k hk=>by have:=hlow k hk;omega,by rw [←hXe];exact HL1.out,HL2.out,by rw [HX.out] at s2;exact s2⟩
   show (takeQ Q1 m).Perm (takeQ Q1 m++[])
   rw [List.append_nil])
  have HP3:Hid ((takeQ Q (m+1)).Perm (X::takeQ Q1 m)):=Lib.hid (HX.out▸p3)
  generalize takeQ Q1 m=L at HST HP3
  clear p1 p2 p3 p4 p5 H1 HL1 HL2 HB3
  go_wp2_with fail
  go_loopw [37] (fun s wr=>∃(k:Nat) (v':Value) (m':Nat) (Q':Nat→Pt),k≤2∧s=.int .i64 (k:Int)∧Hid (HvIn w wr B H H' g gl cl n W A Z V (.slice (some ⟨gq,0,none⟩) (m+1) c) b0 b1 X L k v' m' Q')) (fun s _=>2 - (intOf s).toNat)
  case atStart=>exact ⟨0,v1,m,Q1,by omega,rfl,HST⟩
  case round=>
   clear HST
   obtain ⟨k,v2,m2,Q2,hk,rfl,hI⟩:=hrel
   by_cases hlt:k < 2
   · have hlti:(k:Int) < 2:=by omega
     have hXe:=HXX.out
     have hl1:=hI.out.l1
     rw [←hXe] at hl1
     have r0:wr.cell? ⟨b1,0,none⟩=some (.int .i64 (l:Int)):=hl1.cell 0
     have r1:wr.cell? ⟨b1,1,none⟩=some (.int .i64 e):=hl1.cell 1
     have r2:wr.cell? ⟨b1,2,none⟩=some (.int .i64 (a:Int)):=hl1.cell 2
     have r3:wr.cell? ⟨b1,3,none⟩=some (.int .i64 (b:Int)):=hl1.cell 3
     have HHa:=Lib.hid (HHf.out wr hI.out.sr.lvs k hlt)
     have HOr:=Lib.hid hI.out.sr.ord
     have i1:IntKind.i64.wrap ((k:Int)+1)=((k+1:Nat):Int):=by rw [IntWalk.i64_in _ (by omega)];omega
     clear hXe hl1
     by_cases hab:(halfQ V n W X k).a < (halfQ V n W X k).b
     · have HLy:Hid (∀w5,Below wr.heap.size wr w5→Calls Tryz.prog 104 #[.pointer (some ⟨g,0,none⟩),ptV (halfQ V n W X k)] w5 fun e w'=>e=.returned (.tuple #[])∧∃v3 Q3,HvIn w w' B H H' g gl cl n W A Z V (.slice (some ⟨gq,0,none⟩) (m+1) c) b0 b1 X L (k+1) v3 (m2+1) Q3):=Lib.hid fun w5 hb5=>by
        have hI5:=hI.out.below hb5
        have hf:=hI5.sr.few
        have hokk:=HOKh.out k hlt hab
        have hrk:=hokk.room
        refine (bsLay_yes hI5.sr.hp hI5.sr.ord.2.2.2.2.2.2 (by omega) hI5.sr.fine hI5.sr.heap _ ⟨by omega,by omega⟩ hab).mono ?_
        rintro e w6 ⟨rfl,hp6⟩
        exact ⟨rfl,hI5.push hlt HSm.out hab hokk hp6⟩
       generalize halfQ V n W X k=hq at HHa HLy
       clear hI hab
       obtain ⟨hv,hhv⟩:∃hv,ptV hq=hv:=⟨_,rfl⟩
       rw [hhv] at HHa HLy
       clear hhv
       go_wp2_with (first
        | (go_at_call 154;(with_reducible refine HHa.out.mono ?_);rintro e1 w5 ⟨rfl,hb5⟩;have HLy5:=Lib.hid (HLy.out w5 hb5))
        | (go_at_call 104;(with_reducible refine HLy5.out.mono ?_);rintro e1 w6 ⟨rfl,v3,Q3,hI3⟩;have HI3:=Lib.hid hI3;clear hI3))
       go_roundw
       case rel=>exact ⟨k+1,v3,m2+1,Q3,by omega,by go_num,HI3⟩
       case measure=>simp [intOf];omega
     · have HLy:Hid (∀w5,Below wr.heap.size wr w5→Calls Tryz.prog 104 #[.pointer (some ⟨g,0,none⟩),ptV (halfQ V n W X k)] w5 fun e w'=>e=.returned (.tuple #[])∧HvIn w w' B H H' g gl cl n W A Z V (.slice (some ⟨gq,0,none⟩) (m+1) c) b0 b1 X L (k+1) v2 m2 Q2):=Lib.hid fun w5 hb5=>by
        refine (bsLay_no (g:=g) w5 _ hab).mono ?_
        rintro e w6 ⟨rfl,hb6⟩
        exact ⟨rfl,((hI.out.below hb5).below hb6).skip hab⟩
       generalize halfQ V n W X k=hq at HHa HLy
       clear hI hab
       obtain ⟨hv,hhv⟩:∃hv,ptV hq=hv:=⟨_,rfl⟩
       rw [hhv] at HHa HLy
       clear hhv
       go_wp2_with (first
        | (go_at_call 154;(with_reducible refine HHa.out.mono ?_);rintro e1 w5 ⟨rfl,hb5⟩;have HLy5:=Lib.hid (HLy.out w5 hb5))
        | (go_at_call 104;(with_reducible refine HLy5.out.mono ?_);rintro e1 w6 ⟨rfl,hI3⟩;have HI3:=Lib.hid hI3;clear hI3))
       go_roundw
       case rel=>exact ⟨k+1,v2,m2,Q2,by omega,by go_num,HI3⟩
       case measure=>simp [intOf];omega
   · obtain rfl:k=2:=by omega
     have hge:¬((2:Nat):Int) < 2:=by omega
     have c0:wr.cell? ⟨b0,0,none⟩=some (.int .i64 0):=hI.out.l0.cell 0
     have c1:wr.cell? ⟨b0,1,none⟩=some (.int .i64 0):=hI.out.l0.cell 1
     have f0:=hI.out.l0.free 0
     have f1:=hI.out.l0.free 1
     have hz:=(hI.out.l0.put 0 (.int .i64 0)).put 1 (.int .i64 0)
     have z0:((wr.setCell ⟨b0,0,none⟩ (.int .i64 0)).setCell ⟨b0,1,none⟩ (.int .i64 0)).cell? ⟨b0,0,none⟩=some (.int .i64 0):=hz.cell 0
     have z1:((wr.setCell ⟨b0,0,none⟩ (.int .i64 0)).setCell ⟨b0,1,none⟩ (.int .i64 0)).cell? ⟨b0,1,none⟩=some (.int .i64 0):=hz.cell 1
     have hoz:OffB (fun k=>k=b0) wr ((wr.setCell ⟨b0,0,none⟩ (.int .i64 0)).setCell ⟨b0,1,none⟩ (.int .i64 0)):=((OffB.refl (fun k=>k=b0) wr).setCell (p:=⟨b0,0,none⟩) rfl _).setCell (p:=⟨b0,1,none⟩) rfl _
     have HOz:=Lib.hid hoz
     clear hz hoz
     go_wp2_with fail
     refine bodyPost_ret (v:=.tuple #[.agg #[.int .i64 0,.int .i64 0],.bool false,.bool true]) (by simp [results,Tryz.results106,go_sem,z0,z1]) rfl ?_
     have hb0:=HBd.out.1
     exact ⟨rfl,v2,m2,Q2,hI.out.sr.offb HOz.out (fun k hk e=>(hI.out.out k hk).1 e) (fun k e=>by have:=HS.out.ord.2.2.2.2.2.2;omega),L,HP3.out,hI.out.perm,hI.out.off.trans HOz.out (fun k e=>.inr (by omega)),hI.out.ft⟩
end
end Go.Proofs.YtcidobpbepeakaaGreat
