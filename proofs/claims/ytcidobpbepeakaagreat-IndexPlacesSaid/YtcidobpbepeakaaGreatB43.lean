/- Texts of ours, joined: FindGo. -/
import Derived.Test.YtcidobpbepeakaaGreatB38
import Derived.Test.YtcidobpbepeakaaGreatB29
import Derived.Test.YtcidobpbepeakaaGreatB20
set_option maxRecDepth 1000000
set_option maxHeartbeats 6400000
namespace Go.Proofs.YtcidobpbepeakaaGreat
open Go.RowKit
attribute [local go_sem] Oper.semAt_some
theorem back_lawX {g:Operand} {ps:Array Tmp} {assign body:Code} {Q:Exit→Act→World→Prop} {a:Act} {w:World} {nn z:Nat}
    (A:Option Addr) (n c b1:Nat) (hz:w.heap.size=z) (hn:n≤9223372036854775807) (h1:b1 < z) (c1:w.cell? ⟨b1,0,none⟩=some (.slice A n c)) (hI0:IntsAt w A n)
    (hg:a.eval g=.func (.func 114) #[] #[.pointer (some ⟨b1,0,none⟩)]) (hps:ps.size=2)
    (I:Nat→World→Prop) (Ix:Code→World→Prop) (hI:∀i A1 A2,I i A1→A1.grownBy A2 (some (z+1))→I i A2) (hIx:∀c A1 A2,Ix c A1→A1.grownBy A2 (some (z+1))→Ix c A2) (h0:I 0 w) (a₁:Nat×Int→Act)
    (hassign:∀(l:Nat) (x:Nat×Int) (W:World) (K:Act→World→Prop),K (a₁ x) W→
      assign.wpIn (Fence.wide.inRound l) 0 Tryz.prog (Exit.then K (fun _ _ _=>False)) { tmps:=(ps.zip #[.int .i64 (x.1:Int),.int .i64 x.2]).foldl (fun t (p,v)=>t.setIfInBounds p v) a.tmps,defers:=[] } W)
    (hbody:∀(l i:Nat) (x:Nat×Int) (W:World),z+2≤W.heap.size→i < n→BackOk A n i x W→I i W→
      body.wpIn (Fence.wide.inRound l) 0 Tryz.prog (roundOut (RoundKeeps A n b1 z) (I (i+1)) Ix W) (a₁ x) W)
    (hdone:∀(D:Nat) (W:World),z≤D→I n W→W.heap[D]?=some (.deferred (some []))→Q .normal { a with defers:={ target:=.collected D,args:=#[] }::a.defers } W)
    (hstop:∀(D:Nat) (c:Code) (W:World),z≤D→Ix c W→W.heap[D]?=some (.deferred (some []))→c.wpIn Fence.wide nn Tryz.prog Q { a with defers:={ target:=.collected D,args:=#[] }::a.defers } W):
    (Code.rangeFunc g ps assign body).wpIn Fence.wide nn Tryz.prog Q a w:=by
 have hG:=backward_gives A n c b1 w hn (by omega) c1 hI0
 have hlo:∀ad,A=some ad→0 < n→ad.block < z:=fun ad e hn0=>by
  obtain ⟨ad',v,e',hc⟩:=hI0 0 hn0
  rw [e] at e'
  cases e'
  have:=cell_in hc
  rw [add_block] at this
  omega
 have hSt:∀A1 A2:World,(A1.grownBy A2 (some (w.heap.size+1))∨Still A1 A2)→A1.grownBy A2 (some (z+1)):=fun A1 A2 g=>by
  rcases g with g | g
  · rw [hz] at g
    exact g
  · exact ⟨g.os,g.tape,g.output,by rw [g.heap];exact Nat.le_refl _,fun k _ _=>by rw [g.heap]⟩
 refine range_law (gf:=114) (lb:=#[.pointer (some ⟨b1,0,none⟩)]) hg (enters_of Tryz.func114 (by kernel_rfl) rfl) hG (fun _=>hps.symm)
  (RoundKeeps A n b1 z) I Ix (fun A1 A2 h k _ _ _=>by rw [h.heap]) (fun A1 A2 h k h2 h3 h4=>h.1.block k h4 (by omega)) ?kp (fun i A1 A2 h g=>hI i A1 A2 h (hSt A1 A2 g)) (fun c A1 A2 h g=>hIx c A1 A2 h (hSt A1 A2 g)) ?ok h0 a₁ hassign ?body ?done ?stop
 case kp=>
  intro A1 B1 C1 D1 hs g1 g2 g3
  rw [hz] at g1 g3 hs
  have s1:=g1.size
  have s2:=g2.1.size
  refine ⟨(g3.block b1 (by omega) (fun e=>by injection e with e;omega)).trans ((g2.1.block b1 (by omega) (.inl rfl)).trans (g1.block b1 (by omega) (fun e=>by injection e with e;omega))),fun _ j hj=>?_⟩
  obtain ⟨ad,v,e,hc⟩:=g2.2 j hj
  refine ⟨ad,v,e,(World.cell?_of_block (g3.block _ (cell_in hc) (fun e'=>?_))).trans hc⟩
  injection e' with e'
  have:=hlo ad e (by omega)
  rw [add_block] at e'
  omega
 case ok=>
  rintro i x A1 A2 r ⟨e1,ad,e2,hc⟩ hr h
  refine ⟨e1,ad,e2,(World.cell?_of_block (h.block _ (cell_in hc) (fun e'=>?_))).trans hc⟩
  injection e' with e'
  have:=hlo ad e2 (by omega)
  rw [add_block] at e'
  omega
 case body=>
  intro l i x W hs hi hx hIi
  rw [hz] at hs
  exact hbody l i x W hs hi hx hIi
 case done=>
  intro D W hD hIn hk
  rw [hz] at hD
  exact hdone D W hD hIn hk
 case stop=>
  intro D c W hD hIn hk
  rw [hz] at hD
  exact hstop D c W hD hIn hk
def lastP (P:Nat→Int) (m i:Nat):Nat→Int:=fun t=>P (m - i+t)
theorem lastP_all (P:Nat→Int) (m:Nat):lastP P m m=P:=funext fun t=>by unfold lastP;rw [Nat.sub_self,Nat.zero_add]
theorem lastP_cons {P:Nat→Int} {m i:Nat} (hi:i < m):lastP P m (i+1)=consF (P (m - (i+1))) (lastP P m i):=funext fun t=>by
 cases t with
 | zero=>rfl
 | succ t=>
   show P _=P _
   congr 1
   omega
theorem lastP_stands {T P:Nat→Int} {n m i a:Nat} (hi:i≤m) (h:StN T n P m a):StN T n (lastP P m i) i (a+(m - i)):=⟨by have:=h.1;omega,fun t ht=>by
 have:=h.2 (m - i+t) (by omega)
 rw [show a+(m - i)+t=a+(m - i+t) by omega]
 exact this⟩
theorem lastP_none {T P:Nat→Int} {n m i:Nat} {s:Nat→Nat} (hs:IsSA T n s) (hi:i≤m) (hi0:0 < i) (h:rngF (fun j=>stB T n (lastP P m i) i (s j)) n=(0,0)):rngF (fun j=>stB T n P m (s j)) n=(0,0):=by
 refine rngF_nil fun j hj=>?_
 rw [Bool.eq_false_iff]
 intro g
 have g1:=lastP_stands hi (stB_iff.1 g)
 obtain ⟨q,hq,e⟩:=hs.onto (show s j+(m - i) < n by have:=g1.1;omega)
 have g2:=(rngF_in (P:=lastP P m i) (m:=i) hs hq).1 (by rw [e];exact stB_iff.2 g1)
 rw [h] at g2
 omega
structure RgIn (w:World) (lo g:Nat) (A:Option Addr) (m c x y:Nat) (W:World):Prop where
 bf:Lies W lo 69 [.pointer (some ⟨g,0,none⟩)]
 bp:Lies W (lo+1) 34 [.slice A m c]
 r0:Lies W (lo+2) 3 [.int .i64 0]
 r1:Lies W (lo+3) 3 [.int .i64 0]
 xa:Lies W (lo+4) 3 [.int .i64 (x:Int)]
 xb:Lies W (lo+5) 3 [.int .i64 (y:Int)]
 below:Below lo w W
 size:lo+6≤W.heap.size
theorem RgIn.grown {w W W':World} {lo g m c x y:Nat} {A:Option Addr} {row:Option Nat} (h:RgIn w lo g A m c x y W) (hw:w.heap.size=lo) (hg:W.grownBy W' row) (hr:∀k,row=some k→lo+6≤k):RgIn w lo g A m c x y W':=by
 have hne:∀k,k < lo+6→some k≠row:=fun k hk e=>by have:=hr k e.symm;omega
 exact ⟨h.bf.grown hg (hne _ (by omega)),h.bp.grown hg (hne _ (by omega)),h.r0.grown hg (hne _ (by omega)),h.r1.grown hg (hne _ (by omega)),h.xa.grown hg (hne _ (by omega)),h.xb.grown hg (hne _ (by omega)),
  h.below.grown hg (by have:=h.below.size;omega) (fun k e=>by have:=hr k e;omega),Nat.le_trans h.size hg.size⟩
theorem RgIn.put {w W:World} {lo g m c x y:Nat} {A:Option Addr} (h:RgIn w lo g A m c x y W) (x' y':Nat):RgIn w lo g A m c x' y' ((W.setCell ⟨lo+4,0,none⟩ (.int .i64 (x':Int))).setCell ⟨lo+5,0,none⟩ (.int .i64 (y':Int))):=by
 have hf:∀ {q:Nat} {t:TypeId} {cs:List Value},Lies W q t cs→q≠lo+4→q≠lo+5→Lies ((W.setCell ⟨lo+4,0,none⟩ (.int .i64 (x':Int))).setCell ⟨lo+5,0,none⟩ (.int .i64 (y':Int))) q t cs:=fun hl h1 h2=>(hl.far (p:=⟨lo+4,0,none⟩) h1 _).far (p:=⟨lo+5,0,none⟩) h2 _
 refine ⟨hf h.bf (by omega) (by omega),hf h.bp (by omega) (by omega),hf h.r0 (by omega) (by omega),hf h.r1 (by omega) (by omega),?_,?_,(h.below.setCell (p:=⟨lo+4,0,none⟩) (by show lo≤lo+4;omega) _).setCell (p:=⟨lo+5,0,none⟩) (by show lo≤lo+5;omega) _,by simp [World.setCell];exact h.size⟩
 · exact (h.xa.put 0 _).far (p:=⟨lo+5,0,none⟩) (by show lo+4≠lo+5;omega) _
 · exact (h.xb.far (p:=⟨lo+4,0,none⟩) (by show lo+5≠lo+4;omega) _).put 0 _
theorem RgIn.drewN {w W:World} {lo g m c x y:Nat} {A:Option Addr} (h:RgIn w lo g A m c x y W) (j:Nat):RgIn w lo g A m c x y (W.drewN j):=⟨h.bf,h.bp,h.r0,h.r1,h.xa,h.xb,below_drewN' h.below j,h.size⟩
theorem RgIn.zeros {w W:World} {lo g m c x y:Nat} {A:Option Addr} (h:RgIn w lo g A m c x y W):RgIn w lo g A m c x y ((W.setCell ⟨lo+2,0,none⟩ (.int .i64 0)).setCell ⟨lo+3,0,none⟩ (.int .i64 0))∧Off (fun k=>k=lo+6∨k=lo+7∨k=lo+7+1) W ((W.setCell ⟨lo+2,0,none⟩ (.int .i64 0)).setCell ⟨lo+3,0,none⟩ (.int .i64 0)):=by
 have hf:∀ {q:Nat} {t:TypeId} {cs:List Value},Lies W q t cs→q≠lo+2→q≠lo+3→Lies ((W.setCell ⟨lo+2,0,none⟩ (.int .i64 0)).setCell ⟨lo+3,0,none⟩ (.int .i64 0)) q t cs:=fun hl h1 h2=>(hl.far (p:=⟨lo+2,0,none⟩) h1 _).far (p:=⟨lo+3,0,none⟩) h2 _
 refine ⟨⟨hf h.bf (by omega) (by omega),hf h.bp (by omega) (by omega),?_,?_,hf h.xa (by omega) (by omega),hf h.xb (by omega) (by omega),(h.below.setCell (p:=⟨lo+2,0,none⟩) (by show lo≤lo+2;omega) _).setCell (p:=⟨lo+3,0,none⟩) (by show lo≤lo+3;omega) _,by simp [World.setCell];exact h.size⟩,?_⟩
 · exact (h.r0.put 0 _).far (p:=⟨lo+3,0,none⟩) (by show lo+2≠lo+3;omega) _
 · exact (h.r1.far (p:=⟨lo+2,0,none⟩) (by show lo+3≠lo+2;omega) _).put 0 _
 · exact (Off.setCell (q:=⟨lo+2,0,none⟩) (by show ¬(lo+2=lo+6∨lo+2=lo+7∨lo+2=lo+7+1);omega) _).trans (Off.setCell (q:=⟨lo+3,0,none⟩) (by show ¬(lo+3=lo+6∨lo+3=lo+7∨lo+3=lo+7+1);omega) _)
theorem off_drewN (p:Nat→Prop) (W:World) (j:Nat):Off p W (W.drewN j):=⟨rfl,rfl,rfl,Nat.le_refl _,fun _ _ _=>rfl⟩
theorem narF_is {w:World} {B g n al k x y i:Nat} {T P:Nat→Int} {s:Nat→Nat} {a:FdA} {c:Int} (h:Fd w B g n T s al k a) (hc:c≠T (n - 1)∨i=0) (hab:rngF (fun j=>stB T n P i (s j)) n=(x,y)):
    narF T n s al (x:Int) (y:Int) c=((((rngF (fun j=>stB T n (consF c P) (i+1) (s j)) n).1:Nat):Int),(((rngF (fun j=>stB T n (consF c P) (i+1) (s j)) n).2:Nat):Int)):=by
 have hle:=rngF_le (fun j=>stB T n P i (s j)) n
 rw [hab] at hle
 have hle:x≤y∧y≤n:=hle
 rw [nar_range h.once h.sa hc hab]
 unfold narF
 rw [Int.toNat_natCast,Int.toNat_natCast]
 by_cases e:trnC T n s c x=trnC T n s c y
 · rw [if_neg (fun g=>g.2 e),if_neg (fun g=>g e)]
   rfl
 · have hb:0≤c∧c < (al:Int):=by
    have hne:trnC T n s c y≠0∨trnC T n s c x≠0:=by omega
    rcases hne with g1 | g1
    · obtain ⟨i,hi,e⟩:=trnC_some (by omega) g1
      rw [←e]
      exact ⟨(h.turned hi).1,(h.turned hi).2.2⟩
    · obtain ⟨i,hi,e⟩:=trnC_some (by omega) g1
      rw [←e]
      exact ⟨(h.turned hi).1,(h.turned hi).2.2⟩
   rw [if_pos ⟨⟨by omega,by omega,by omega,hb⟩,e⟩,if_pos e]
theorem its_roundF {w W:World} {lo n:Nat} {A:Option Addr} {V:Nat→Int} (h:Its w lo A n V) (hb:Below lo w W):IntsAt W A n:=fun j hj=>by
 obtain ⟨ad,e,hl,hc,_⟩:=h j hj
 exact ⟨ad,V j,e,(hb.cell (by rw [add_block];exact hl)).trans hc⟩
theorem fdRange_any {B g n al k:Nat} {T:Nat→Int} {s:Nat→Nat} {a:FdA} {w:World} (h:Fd w B g n T s al k a) (A:Option Addr) (m c:Nat) (P:Nat→Int) (ho:ItsR w A m c P):
    Calls Tryz.prog 41 #[.pointer (some ⟨g,0,none⟩),.slice A m c] w fun e w'=>e=.returned (.tuple #[.int .i64 (((rngF (fun i=>stB T n P m (s i)) n).1:Nat):Int),.int .i64 (((rngF (fun i=>stB T n P m (s i)) n).2:Nat):Int)])∧Below w.heap.size w w':=by
 have HO:=Lib.hid ho.2.2.2
 have H:=Lib.hid h
 have hm:m≤9223372036854775807:=by
  have h1:=ho.2.1
  have h2:=ho.2.2.1
  unfold maxLen at h2
  omega
 have hn:=h.few
 have hn0:=h.once.1
 obtain ⟨lo,hlo⟩:∃lo,w.heap.size=lo:=⟨_,rfl⟩
 rw [hlo] at HO ⊢
 obtain ⟨w1,hw1⟩:∃w1,w.alloc (.cells #[.pointer (some ⟨g,0,none⟩)] 69)=w1:=⟨_,rfl⟩
 have z1:w1.heap.size=lo+1:=by rw [←hw1,size_alloc,hlo]
 have l1:Lies w1 lo 69 [.pointer (some ⟨g,0,none⟩)]:=by rw [←hw1,←hlo];exact lies_new w _ _
 have k1:Below lo w w1:=by rw [←hw1,←hlo];exact (Below.refl _ _).alloc (Nat.le_refl _) _
 obtain ⟨w2,hw2⟩:∃w2,w1.alloc (.cells #[.slice A m c] 34)=w2:=⟨_,rfl⟩
 have z2:w2.heap.size=lo+2:=by rw [←hw2,size_alloc,z1]
 have l2:Lies w2 (lo+1) 34 [.slice A m c]:=by rw [←hw2,←z1];exact lies_new w1 _ _
 have k2:Below (lo+1) w1 w2:=by rw [←hw2,←z1];exact (Below.refl _ _).alloc (Nat.le_refl _) _
 obtain ⟨w3,hw3⟩:∃w3,w2.alloc (.cells #[.int .i64 0] 3)=w3:=⟨_,rfl⟩
 have z3:w3.heap.size=lo+3:=by rw [←hw3,size_alloc,z2]
 have l3:Lies w3 (lo+2) 3 [.int .i64 0]:=by rw [←hw3,←z2];exact lies_new w2 _ _
 have k3:Below (lo+2) w2 w3:=by rw [←hw3,←z2];exact (Below.refl _ _).alloc (Nat.le_refl _) _
 obtain ⟨w4,hw4⟩:∃w4,w3.alloc (.cells #[.int .i64 0] 3)=w4:=⟨_,rfl⟩
 have z4:w4.heap.size=lo+4:=by rw [←hw4,size_alloc,z3]
 have l4:Lies w4 (lo+3) 3 [.int .i64 0]:=by rw [←hw4,←z3];exact lies_new w3 _ _
 have k4:Below (lo+3) w3 w4:=by rw [←hw4,←z3];exact (Below.refl _ _).alloc (Nat.le_refl _) _
 have K4:Below lo w w4:=((k1.trans (k2.mono (by omega))).trans (k3.mono (by omega))).trans (k4.mono (by omega))
 have f4:Lies w4 lo 69 [.pointer (some ⟨g,0,none⟩)]:=((l1.below k2 (by omega)).below k3 (by omega)).below k4 (by omega)
 have v4:=f4.cell 0
 have HLn:=Lib.hid (fdLen_any (h.keep (by rw [hlo];exact K4)))
 obtain ⟨w5,hw5⟩:∃w5,w4.alloc (.cells #[.int .i64 0] 3)=w5:=⟨_,rfl⟩
 have z5:w5.heap.size=lo+5:=by rw [←hw5,size_alloc,z4]
 have l5:Lies w5 (lo+4) 3 [.int .i64 0]:=by rw [←hw5,←z4];exact lies_new w4 _ _
 have k5:Below (lo+4) w4 w5:=by rw [←hw5,←z4];exact (Below.refl _ _).alloc (Nat.le_refl _) _
 obtain ⟨w6,hw6⟩:∃w6,w5.alloc (.cells #[.int .i64 0] 3)=w6:=⟨_,rfl⟩
 have z6:w6.heap.size=lo+6:=by rw [←hw6,size_alloc,z5]
 have l6:Lies w6 (lo+5) 3 [.int .i64 0]:=by rw [←hw6,←z5];exact lies_new w5 _ _
 have k6:Below (lo+5) w5 w6:=by rw [←hw6,←z5];exact (Below.refl _ _).alloc (Nat.le_refl _) _
 have K46:Below (lo+4) w4 w6:=k5.trans (k6.mono (by omega))
 have R6:RgIn w lo g A m c 0 0 w6:=⟨f4.below K46 (by omega),(((l2.below k3 (by omega)).below k4 (by omega)).below K46 (by omega)),((l3.below k4 (by omega)).below K46 (by omega)),l4.below K46 (by omega),l5.below k6 (by omega),l6,K4.trans (K46.mono (by omega)),by omega⟩
 have R8:=R6.put 0 n
 have c64:w6.cell? ⟨lo+4,0,none⟩=some (.int .i64 0):=R6.xa.cell 0
 have c64f:=R6.xa.free 0
 have c65:w6.cell? ⟨lo+5,0,none⟩=some (.int .i64 0):=R6.xb.cell 0
 have c65f:=R6.xb.free 0
 have z8:((w6.setCell ⟨lo+4,0,none⟩ (.int .i64 ((0:Nat):Int))).setCell ⟨lo+5,0,none⟩ (.int .i64 (n:Int))).heap.size=lo+6:=by simp [World.setCell];exact z6
 rw [show ((0:Nat):Int)=0 from rfl] at R8 z8
 have c75:(w6.setCell ⟨lo+4,0,none⟩ (.int .i64 0)).cell? ⟨lo+5,0,none⟩=some (.int .i64 0):=(R6.xb.far (p:=⟨lo+4,0,none⟩) (by show lo+5≠lo+4;omega) _).cell 0
 have c75f:(w6.setCell ⟨lo+4,0,none⟩ (.int .i64 0)).frozen? ⟨lo+5,0,none⟩=false:=(R6.xb.far (p:=⟨lo+4,0,none⟩) (by show lo+5≠lo+4;omega) _).free 0
 obtain ⟨w7,hw7⟩:∃w7,w6.setCell ⟨lo+4,0,none⟩ (.int .i64 0)=w7:=⟨_,rfl⟩
 rw [hw7] at R8 z8 c75 c75f
 obtain ⟨w8,hw8⟩:∃w8,w7.setCell ⟨lo+5,0,none⟩ (.int .i64 (n:Int))=w8:=⟨_,rfl⟩
 rw [hw8] at R8 z8
 have v8:=R8.bp.cell 0
 have HBk:=Lib.hid (backward_any A m c w8)
 have HR8:=Lib.hid R8
 clear l1 l2 l3 l4 l5 l6 k1 k2 k3 k4 k5 k6 K4 K46 f4 R6 R8 h ho
 refine (callsIn_wide (n:=0)).1 ?_
 refine callsIn_of_wp_marks Tryz.func41 rfl trivial ?_ rfl
 simp only [Tryz.ntmps41,List.size_toArray,List.length_cons,List.length_nil,Nat.reduceAdd,Nat.reduceSub,Array.replicate_succ,Array.replicate_zero,List.push_toArray,List.append_toArray,List.nil_append,List.cons_append]
 gi_wp2
 refine ⟨trivial,rfl,(callsIn_wide.2 HLn.out).mono ?_⟩
 rintro e' W1 ⟨rfl,rfl⟩
 gi_wp2
 refine ⟨trivial,rfl,(callsIn_wide.2 HBk.out).mono ?_⟩
 rintro e' W1 ⟨rfl,hW1⟩
 rw [z8]
 have zW1:W1.heap.size=lo+7:=by rw [hW1,size_alloc,z8]
 have gW1:w8.grownBy W1 none:=by rw [hW1];exact World.grownBy_alloc _ _ _
 have lb:Lies W1 (lo+6) 34 [.slice A m c]:=by rw [hW1,←z8];exact lies_new _ _ _
 have R0:=HR8.out.grown hlo gW1 (fun k e=>by cases e)
 clear HBk HLn gW1 HR8
 gi_wp2
 rw [←hW1]
 clear hW1
 refine back_lawX A m c (lo+6) zW1 hm (by omega) (lb.cell 0) (its_roundF HO.out R0.below) rfl rfl
  (fun i W=>Hid (∃x y,RgIn w lo g A m c x y W∧x < y∧rngF (fun j=>stB T n (lastP P m i) i (s j)) n=(x,y)))
  (fun c' W=>c'=.ret∧Hid (rngF (fun j=>stB T n P m (s j)) n=(0,0))∧Hid (∃x y,RgIn w lo g A m c x y W)) ?inv ?ix
  (Lib.hid ⟨0,n,R0,hn0,rngF_all fun j hj=>stB_iff.2 ⟨by have:=H.out.sa.1 j hj;omega,fun t ht=>absurd ht (Nat.not_lt_zero t)⟩⟩)
  (fun x=>{ tmps:=#[.pointer (some ⟨g,0,none⟩),.slice A m c,.pointer (some ⟨lo,0,none⟩),.pointer (some ⟨lo+1,0,none⟩),.pointer (some ⟨lo+2,0,none⟩),.pointer (some ⟨lo+3,0,none⟩),.pointer (some ⟨lo+4,0,none⟩),.pointer (some ⟨lo+5,0,none⟩),.int .i64 (x.1:Int),.int .i64 x.2,.pointer (some ⟨g,0,none⟩),.bool false,.pointer (some ⟨g,0,none⟩),.int .i64 (n:Int),.slice A m c,.func (.func 114) #[] #[.pointer (some ⟨lo+6,0,none⟩)],.int .i64 (x.1:Int),.int .i64 x.2,undef,undef,undef,undef,undef,undef,undef,undef,undef,undef,undef,undef,undef,undef,undef,undef,undef,undef,undef,undef,undef,undef,undef,undef,undef,undef],defers:=[] }) ?assign ?body ?done ?stop
 case inv=>
  intro i A1 A2 hi hg
  obtain ⟨x,y,h1,h2⟩:=hi.out
  exact Lib.hid ⟨x,y,h1.grown hlo hg (fun k e=>by cases e;omega),h2⟩
 case ix=>
  rintro c' A1 A2 ⟨h1,h2,h3⟩ hg
  obtain ⟨x,y,h4⟩:=h3.out
  exact ⟨h1,h2,Lib.hid ⟨x,y,h4.grown hlo hg (fun k e=>by cases e;omega)⟩⟩
 case assign=>
  intro l x W K hK
  gi_wp2
  exact hK
 case body=>
  rintro l i ⟨km,vx⟩ W hs hi ⟨hx1',ad,hA,hc'⟩ hR
  obtain rfl:A=some ad:=hA
  have hx1:km+i+1=m:=hx1'
  have hc:W.cell? (ad.add km)=some (.int .i64 vx):=hc'
  clear hx1' hc'
  obtain ⟨x,y,hG,hxy,hrng⟩:=hR.out
  obtain ⟨ad',e',_,hc',hv1,hv2⟩:=(HO.out.below hG.below) km (by omega)
  have hvx:vx=P km:=by
   cases e'
   rw [hc'] at hc
   injection hc with hc
   injection hc with _ hc
   exact hc.symm
  have hPt:lastP P m (i+1)=consF vx (lastP P m i):=by
   rw [lastP_cons (by omega),hvx,show m - (i+1)=km by omega]
  have hFd:=H.out.keep (w':=W) (by rw [hlo];exact hG.below)
  obtain ⟨lst,hlst⟩:∃lst,T (n - 1)=lst:=⟨_,rfl⟩
  have d0:=hFd.c0
  rw [hlst] at d0
  have HKeep:Hid (∀W' x' y',RgIn w lo g (some ad) m c x' y' W'→IntsAt W' (some ad) m):=Lib.hid fun W' x' y' h=>its_roundF HO.out h.below
  have b0:=hG.bf.cell 0
  have b1:=hG.bp.cell 0
  have e2:IntKind.i64.wrap ((km:Int)+1)=((km+1:Nat):Int):=by rw [IntWalk.i64_in _ (by omega)];omega
  obtain ⟨k1,hk1⟩:∃k1,km+1=k1:=⟨_,rfl⟩
  rw [hk1] at e2
  by_cases hret:vx=lst∧0 < i
  · obtain ⟨rfl,hi0⟩:=hret
    have e1:(vx==vx)=true:=by simp
    have e3:(k1:Int) < (m:Int):=by omega
    have e4:decide ((k1:Int) < (m:Int))=true:=decide_eq_true e3
    have HNone:Hid (rngF (fun j=>stB T n P m (s j)) n=(0,0)):=Lib.hid (lastP_none H.out.sa (i:=i+1) (by omega) (by omega) (by
     rw [hPt]
     exact rngF_nil fun j hj=>by rw [←hlst];exact nar_last H.out.once hi0))
    have r0:=hG.r0.cell 0
    have r0f:=hG.r0.free 0
    have r1:(W.setCell ⟨lo+2,0,none⟩ (.int .i64 0)).cell? ⟨lo+3,0,none⟩=some (.int .i64 0):=(hG.r1.far (p:=⟨lo+2,0,none⟩) (by show lo+3≠lo+2;omega) _).cell 0
    have r1f:(W.setCell ⟨lo+2,0,none⟩ (.int .i64 0)).frozen? ⟨lo+3,0,none⟩=false:=(hG.r1.far (p:=⟨lo+2,0,none⟩) (by show lo+3≠lo+2;omega) _).free 0
    have HG2:=Lib.hid hG.zeros
    clear hc hG hrng hPt hFd hc' hv1 hv2 hvx hlst hR
    gi_wp2
    exact ⟨⟨HG2.out.2,HKeep.out _ _ _ HG2.out.1⟩,by trivial,HNone,Lib.hid ⟨_,_,HG2.out.1⟩⟩
  · have hcc:vx≠T (n - 1)∨i=0:=by rw [hlst];omega
    obtain ⟨p,q,hpq⟩:∃p q,rngF (fun j=>stB T n (lastP P m (i+1)) (i+1) (s j)) n=(p,q):=⟨_,_,rfl⟩
    have hNa:=fdNarrow_any hFd (x:Int) (y:Int) vx
    rw [narF_is hFd hcc hrng,←hPt,hpq] at hNa
    have hNa:Calls Tryz.prog 71 #[.pointer (some ⟨g,0,none⟩),.int .i64 (x:Int),.int .i64 (y:Int),.int .i64 vx] W fun e w'=>e=.returned (.tuple #[.int .i64 (p:Int),.int .i64 (q:Int)])∧∃j,w'=W.drewN j:=hNa
    have HNa:=Lib.hid hNa
    have hle:=rngF_le (fun j=>stB T n (lastP P m (i+1)) (i+1) (s j)) n
    have hlt:=rngF_lt (f:=fun j=>stB T n (lastP P m (i+1)) (i+1) (s j)) (k:=n)
    rw [hpq] at hle hlt
    have hle:p≤q∧q≤n:=hle
    have hlt:q≠0→p < q:=hlt
    have b4:=hG.xa.cell 0
    have b5:=hG.xb.cell 0
    have HG:=Lib.hid hG
    have HPq:=Lib.hid hpq
    have HSt:Hid (∀j,RgIn w lo g (some ad) m c p q (((W.drewN j).setCell ⟨lo+4,0,none⟩ (.int .i64 (p:Int))).setCell ⟨lo+5,0,none⟩ (.int .i64 (q:Int)))∧Off (fun k=>k=lo+6∨k=lo+7∨k=lo+7+1) W (((W.drewN j).setCell ⟨lo+4,0,none⟩ (.int .i64 (p:Int))).setCell ⟨lo+5,0,none⟩ (.int .i64 (q:Int)))):=Lib.hid fun j=>⟨(HG.out.drewN j).put p q,((off_drewN _ _ _).trans (Off.setCell (q:=⟨lo+4,0,none⟩) (by show ¬(lo+4=lo+6∨lo+4=lo+7∨lo+4=lo+7+1);omega) _)).trans (Off.setCell (q:=⟨lo+5,0,none⟩) (by show ¬(lo+5=lo+6∨lo+5=lo+7∨lo+5=lo+7+1);omega) _)⟩
    clear hc hG hrng hFd hc' hv1 hv2 hvx hlst hR hNa hpq hcc
    have b2:=HG.out.r0.cell 0
    have b2f:=HG.out.r0.free 0
    have b3:=HG.out.r1.cell 0
    have b3f:=HG.out.r1.free 0
    have b4f:=HG.out.xa.free 0
    have b5f:=HG.out.xb.free 0
    by_cases hpe:p=q
    · have HNone:Hid (rngF (fun j=>stB T n P m (s j)) n=(0,0)):=Lib.hid (lastP_none H.out.sa (i:=i+1) (by omega) (by omega) (by rw [HPq.out,show p=0 by omega,show q=0 by omega]))
      subst hpe
      have f0:((p:Int)==(p:Int))=true:=by simp
      clear hle hlt HPq
      by_cases hv:vx=lst
      · subst hv
        have f1:(vx==vx)=true:=by simp
        have f2:¬(k1:Int) < (m:Int):=by omega
        have f3:decide ((k1:Int) < (m:Int))=false:=decide_eq_false f2
        have f4:decide (k1 < m)=false:=decide_eq_false (by omega)
        clear hret
        gi_wp2_with (refine ⟨trivial,rfl,?_⟩;gi_at_call 71;refine (CallsIn.inRound l (callsIn_wide.2 HNa.out)).mono ?_;rintro e w2 ⟨rfl,j,rfl⟩;have HR2:=Lib.hid (HSt.out j))
        exact ⟨⟨HR2.out.2.trans HR2.out.1.zeros.2,HKeep.out _ _ _ HR2.out.1.zeros.1⟩,by trivial,HNone,Lib.hid ⟨_,_,HR2.out.1.zeros.1⟩⟩
      · have f1:(vx==lst)=false:=by rw [beq_eq_false_iff_ne];exact hv
        clear hret
        gi_wp2_with (refine ⟨trivial,rfl,?_⟩;gi_at_call 71;refine (CallsIn.inRound l (callsIn_wide.2 HNa.out)).mono ?_;rintro e w2 ⟨rfl,j,rfl⟩;have HR2:=Lib.hid (HSt.out j))
        exact ⟨⟨HR2.out.2.trans HR2.out.1.zeros.2,HKeep.out _ _ _ HR2.out.1.zeros.1⟩,by trivial,HNone,Lib.hid ⟨_,_,HR2.out.1.zeros.1⟩⟩
    · have f0:((p:Int)==(q:Int))=false:=by rw [beq_eq_false_iff_ne];omega
      have HLt:Hid (p < q):=Lib.hid (by omega)
      clear hle hlt
      by_cases hv:vx=lst
      · subst hv
        have f1:(vx==vx)=true:=by simp
        have f2:¬(k1:Int) < (m:Int):=by omega
        have f3:decide ((k1:Int) < (m:Int))=false:=decide_eq_false f2
        have f4:decide (k1 < m)=false:=decide_eq_false (by omega)
        clear hret
        gi_wp2_with (refine ⟨trivial,rfl,?_⟩;gi_at_call 71;refine (CallsIn.inRound l (callsIn_wide.2 HNa.out)).mono ?_;rintro e w2 ⟨rfl,j,rfl⟩;have HR2:=Lib.hid (HSt.out j))
        exact ⟨⟨HR2.out.2,HKeep.out _ _ _ HR2.out.1⟩,Lib.hid ⟨_,_,HR2.out.1,HLt.out,HPq.out⟩⟩
      · have f1:(vx==lst)=false:=by rw [beq_eq_false_iff_ne];exact hv
        clear hret
        gi_wp2_with (refine ⟨trivial,rfl,?_⟩;gi_at_call 71;refine (CallsIn.inRound l (callsIn_wide.2 HNa.out)).mono ?_;rintro e w2 ⟨rfl,j,rfl⟩;have HR2:=Lib.hid (HSt.out j))
        exact ⟨⟨HR2.out.2,HKeep.out _ _ _ HR2.out.1⟩,Lib.hid ⟨_,_,HR2.out.1,HLt.out,HPq.out⟩⟩
 case done=>
  intro D W hD hR hk1
  obtain ⟨x,y,hG,hxy,hrng⟩:=hR.out
  rw [lastP_all] at hrng
  have HRg:=Lib.hid hrng
  have hDl:=(Array.getElem?_eq_some_iff.1 hk1).1
  have b2:=hG.r0.cell 0
  have b2f:=hG.r0.free 0
  have b3:=hG.r1.cell 0
  have b3f:=hG.r1.free 0
  have b4:=hG.xa.cell 0
  have b5:=hG.xb.cell 0
  have HB:=Lib.hid hG.below
  clear hR hrng
  gi_wp2
  gi_region
  gi_wp2
  obtain ⟨W2,hW2⟩:∃W2,((W.setCell ⟨lo+2,0,none⟩ (.int .i64 (x:Int))).setCell ⟨lo+3,0,none⟩ (.int .i64 (y:Int))).drew=W2:=⟨_,rfl⟩
  have g2:W2.cell? ⟨lo+2,0,none⟩=some (.int .i64 (x:Int)):=by rw [←hW2];exact ((hG.r0.put 0 _).far (p:=⟨lo+3,0,none⟩) (by show lo+2≠lo+3;omega) _).cell 0
  have g3:W2.cell? ⟨lo+3,0,none⟩=some (.int .i64 (y:Int)):=by rw [←hW2];exact ((hG.r1.far (p:=⟨lo+2,0,none⟩) (by show lo+3≠lo+2;omega) _).put 0 _).cell 0
  have gk:W2.heap[D]?=some (.deferred (some [])):=by
   rw [←hW2]
   exact ((Below.heap_setCell _ _ _ _ (by show D≠lo+3;omega)).trans (Below.heap_setCell _ _ _ _ (by show D≠lo+2;omega))).trans hk1
  have gz:W2.heap.size=W.heap.size:=by rw [←hW2];simp [World.setCell]
  have gb:Below lo w W2:=by
   rw [←hW2]
   exact ((HB.out.setCell (p:=⟨lo+2,0,none⟩) (by show lo≤lo+2;omega) _).setCell (p:=⟨lo+3,0,none⟩) (by show lo≤lo+3;omega) _).drew
  have hMM:Marks (lo+6) W2.heap.size ({ target:=.collected D,args:=#[] }::[]) W2:=⟨D,rfl,by omega,by omega,gk,trivial⟩
  rw [hW2]
  exact hMM.out (by omega) fun w' hw'=>by
   have q2:w'.cell? ⟨lo+2,0,none⟩=some (.int .i64 (x:Int)):=(hw'.cell (p:=⟨lo+2,0,none⟩) (by show lo+2 < lo+6;omega)).trans g2
   have q3:w'.cell? ⟨lo+3,0,none⟩=some (.int .i64 (y:Int)):=(hw'.cell (p:=⟨lo+3,0,none⟩) (by show lo+3 < lo+6;omega)).trans g3
   exact ⟨.tuple #[.int .i64 (x:Int),.int .i64 (y:Int)],by simp [results,Tryz.results41,go_sem,q2,q3],by rw [HRg.out],gb.trans (hw'.mono (by omega))⟩
 case stop=>
  rintro D c' W hD ⟨rfl,hz,hG⟩ hk1
  obtain ⟨x,y,hG⟩:=hG.out
  have hDl:=(Array.getElem?_eq_some_iff.1 hk1).1
  have b2:=hG.r0.cell 0
  have b3:=hG.r1.cell 0
  have HB:=Lib.hid hG.below
  have hMM:Marks (lo+6) W.heap.size ({ target:=.collected D,args:=#[] }::[]) W:=⟨D,rfl,by omega,hDl,hk1,trivial⟩
  gi_wp2
  exact hMM.out (by omega) fun w' hw'=>by
   have g2:w'.cell? ⟨lo+2,0,none⟩=some (.int .i64 0):=(hw'.cell (p:=⟨lo+2,0,none⟩) (by show lo+2 < lo+6;omega)).trans b2
   have g3:w'.cell? ⟨lo+3,0,none⟩=some (.int .i64 0):=(hw'.cell (p:=⟨lo+3,0,none⟩) (by show lo+3 < lo+6;omega)).trans b3
   exact ⟨.tuple #[.int .i64 0,.int .i64 0],by simp [results,Tryz.results41,go_sem,g2,g3],by rw [hz.out];rfl,HB.out.trans (hw'.mono (by omega))⟩
end Go.Proofs.YtcidobpbepeakaaGreat
