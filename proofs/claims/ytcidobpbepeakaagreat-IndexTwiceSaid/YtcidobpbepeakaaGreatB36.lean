/- Texts of ours, joined: SaLaid. -/
import Derived.Laws.EntriesVeiled
import Derived.Test.YtcidobpbepeakaaGreatB03
import Derived.Test.YtcidobpbepeakaaGreatB32
set_option maxRecDepth 1000000
set_option maxHeartbeats 6400000
namespace Go.Proofs.YtcidobpbepeakaaGreat
open Go.RowKit Go.Shelf
attribute [local go_sem] Oper.semAt_some
theorem Rw.raise {w:World} {T T' n c b g e h:Nat} {A:Option Addr} {X:Nat→Nat} (r:Rw w T A n c X b g e h) (hT:T≤T'):Rw w T' A n c X b g e h:=
 ⟨r.head,r.t.mono_ hT,r.less,r.heads,by have:=r.lt;omega,r.small,r.right⟩
theorem sClone_any {w:World} {k n o m cc:Nat} {U:Nat→Int} (h:Lies w k 3 (icells U n)) (ho:o+m≤n) (hm:m≤4194304):
    Calls Tryz.prog 86 #[.slice (some ⟨k,o,none⟩) m cc] w fun e w'=>∃v',e=.returned v'∧w'.ownsRow w.heap.size 3 1 v' m (icells (fun j=>U (o+j)) m)∧Below w.heap.size w w':=by
 have hl:((List.range m).map fun j=>U (o+j)).length=m:=by simp
 have hg:∀j,j < m→((List.range m).map fun j=>U (o+j)).getD j 0=U (o+j):=fun j hj=>by
  rw [List.getD_eq_getElem?_getD,List.getElem?_map,List.getElem?_range hj]
  rfl
 have hC:=Any.slices_Clone_int cloneLays k o m cc ((List.range m).map fun j=>U (o+j)) w (by rw [hl];exact Nat.le_refl _) (by omega) (fun j hj=>by
  rw [hl] at hj
  rw [hg j hj,h.cell]
  exact icells_at U n _ (by omega))
 refine Calls.mono hC ?_
 rintro e w' ⟨v',rfl,hown,_,hb⟩
 refine ⟨v',rfl,?_,hb⟩
 have e1:(List.take m ((List.range m).map fun j=>U (o+j))).map (Value.int .i64)=icells (fun j=>U (o+j)) m:=by
  rw [List.take_of_length_le (by rw [hl];exact Nat.le_refl _),List.map_map]
  rfl
 rw [e1] at hown
 exact hown
theorem own_base {w:World} {B B' n g c:Nat} {t:TypeId} {cs:List Value} (h:w.ownsRow B t 1 (.slice (some ⟨g,0,none⟩) n c) n cs) (hg:B'≤g):w.ownsRow B' t 1 (.slice (some ⟨g,0,none⟩) n c) n cs:=by
 refine ⟨h.1,?_⟩
 rcases h.2 with ⟨e,_⟩ | ⟨g',cap,cur,e,_,h2⟩
 · cases e
 · cases e
   exact .inr ⟨g,c,cur,rfl,hg,h2⟩
theorem own_off {w w':World} {B n g c:Nat} {t:TypeId} {cs:List Value} (h:w.ownsRow B t 1 (.slice (some ⟨g,0,none⟩) n c) n cs) (e':w'.heap[g]?=w.heap[g]?):w'.ownsRow B t 1 (.slice (some ⟨g,0,none⟩) n c) n cs:=by
 refine ⟨h.1,?_⟩
 rcases h.2 with ⟨e,_⟩ | ⟨g',cap,cur,e,h1,h2,h3⟩
 · cases e
 · cases e
   exact .inr ⟨g,c,cur,rfl,h1,e'.trans h2,h3⟩
theorem own_lt {w:World} {B n g c:Nat} {t:TypeId} {cs:List Value} (h:w.ownsRow B t 1 (.slice (some ⟨g,0,none⟩) n c) n cs):g < w.heap.size:=(h.lt g rfl).2
theorem Lg.off {w w':World} {T n c b g e h b2 b5 b6 s y cs cy:Nat} {A:Option Addr} {X:Nat→Nat} {S N:Nat→Int} {p:Nat→Prop} (l:Lg w T A n c X b g e h b2 b5 b6 s y cs cy S N) (hO:Off p w w')
    (hp:∀k,k < T∨k=b2∨k=b5∨k=b6∨k=s∨k=y→p k):Lg w' T A n c X b g e h b2 b5 b6 s y cs cy S N:=by
 have hlt:=own_lt l.sa
 have hT:=l.ge.2.2.2.1
 refine ⟨l.row.below (hO.below (by omega) (fun k hk=>hp k (.inl hk))) (Nat.le_refl _),hO.cell l.v2 (hp _ (.inr (.inl rfl))),hO.cell l.v5 (hp _ (.inr (.inr (.inl rfl)))),hO.cell l.v6 (hp _ (.inr (.inr (.inr (.inl rfl))))),
  own_off l.sa (hO.block _ hlt (hp _ (.inr (.inr (.inr (.inr (.inl rfl))))))),own_off l.nx (hO.block _ (own_lt l.nx) (hp _ (.inr (.inr (.inr (.inr (.inr rfl))))))),l.ge,l.ne⟩
def LIn (w:World) (lo:Nat) (A:Option Addr) (n c:Nat) (X:Nat→Nat) (b g e h b5 b6 y cy:Nat) (P:Option Addr) (m:Nat) (D:Nat→Nat) (ms:List Nat) (Φ:(Nat→Int)→(Nat→Int)→Prop) (W:World):Prop:=
 ∃S N,Lg W lo A n c X b g e h lo b5 b6 (lo+2) y n cy S N∧Φ S N∧
   W.cell? ⟨b6+1,0,none⟩=some (.func (.func 118) #[] #[.pointer (some ⟨b6,0,none⟩),.pointer (some ⟨lo,0,none⟩),.pointer (some ⟨b5,0,none⟩)])∧
   Its W lo P m (fun k=>((D k:Nat):Int))∧Below lo w W∧b6+2≤W.heap.size∧∀d∈ms,W.heap[d]?=some (.deferred (some []))
section
variable {w W W':World} {lo n c b g e h b5 b6 y cy m:Nat} {A P:Option Addr} {X D:Nat→Nat} {ms:List Nat} {Φ Φ':(Nat→Int)→(Nat→Int)→Prop}
theorem LIn.off {p:Nat→Prop} (l:LIn w lo A n c X b g e h b5 b6 y cy P m D ms Φ W) (hO:Off p W W') (hp:∀k,k < b6+2→p k) (hm:∀d∈ms,p d) (hy:y < b6) (h5:b5 < b6) (hl:lo+2 < b6):LIn w lo A n c X b g e h b5 b6 y cy P m D ms Φ W':=by
 obtain ⟨S,N,h1,h2,h3,h4,h6,h7,h8⟩:=l
 have hb:Below lo W W':=hO.below (by omega) (fun k hk=>hp k (by omega))
 refine ⟨S,N,h1.off hO (fun k hk=>hp k (by rcases hk with hk | rfl | rfl | rfl | rfl | rfl <;> omega)),h2,hO.cell h3 (hp _ (by show b6+1 < b6+2;omega)),h4.below hb,h6.trans hb,Nat.le_trans h7 hO.size,fun d hd=>(hO.block d ?_ (hm d hd)).trans (h8 d hd)⟩
 have:=h8 d hd
 exact (Array.getElem?_eq_some_iff.1 this).1
theorem LIn.grown {r:Nat} (l:LIn w lo A n c X b g e h b5 b6 y cy P m D ms Φ W) (hg:W.grownBy W' (some r)) (hr:b6+2≤r) (hm:∀d∈ms,d≠r) (hy:y < b6) (h5:b5 < b6) (hl:lo+2 < b6):LIn w lo A n c X b g e h b5 b6 y cy P m D ms Φ W':=
 l.off (p:=fun k=>k≠r) (Off.grown hg (fun k e'=>by cases e';exact fun hh=>hh rfl)) (fun k hk=>by omega) hm hy h5 hl
theorem LIn.turn (l:LIn w lo A n c X b g e h b5 b6 y cy P m D ms Φ W) {S N:Nat→Int} (h1:Lg W lo A n c X b g e h lo b5 b6 (lo+2) y n cy S N) (hΦ:Φ' S N):LIn w lo A n c X b g e h b5 b6 y cy P m D ms Φ' W:=by
 obtain ⟨_,_,_,_,h3,h4,h6,h7,h8⟩:=l
 exact ⟨S,N,h1,hΦ,h3,h4,h6,h7,h8⟩
theorem LIn.two {S' N':Nat→Int} (l:LIn w lo A n c X b g e h b5 b6 y cy P m D ms Φ W) (hL:Lg W' lo A n c X b g e h lo b5 b6 (lo+2) y n cy S' N') (hO:Off (fun q=>q≠lo+2∧q≠y) W W') (hΦ:Φ' S' N') (hm:∀d∈ms,b6+2≤d) (hy:y < b6) (hly:lo≤y) (hl:lo+2 < b6):LIn w lo A n c X b g e h b5 b6 y cy P m D ms Φ' W':=by
 obtain ⟨S,N,h1,h2,h3,h4,h6,h7,h8⟩:=l
 have hb:Below lo W W':=hO.below (by omega) (fun k hk=>⟨by omega,by omega⟩)
 refine ⟨S',N',hL,hΦ,hO.cell h3 ⟨by show b6+1≠lo+2;omega,by show b6+1≠y;omega⟩,h4.below hb,h6.trans hb,Nat.le_trans h7 hO.size,fun d hd=>(hO.block d ?_ ?_).trans (h8 d hd)⟩
 · exact (Array.getElem?_eq_some_iff.1 (h8 d hd)).1
 · have:=hm d hd
   exact ⟨by omega,by omega⟩
theorem Lg.new_nx {w w':World} {T n c b g e h b2 b5 b6 s y cs cy:Nat} {A:Option Addr} {X:Nat→Nat} {S N N':Nat→Int} (l:Lg w T A n c X b g e h b2 b5 b6 s y cs cy S N) (hO:Off (fun q=>q≠y) w w')
    (hn:w'.ownsRow T 3 1 (.slice (some ⟨y,0,none⟩) b cy) b (icells N' b)):Lg w' T A n c X b g e h b2 b5 b6 s y cs cy S N':=by
 have hlt:=own_lt l.sa
 obtain ⟨g1,g2,g3,g4,g5⟩:=l.ge
 obtain ⟨n1,n2,n3,n4,n5,n6,n7⟩:=l.ne
 exact ⟨l.row.below (hO.below (by omega) (fun k hk=>by omega)) (Nat.le_refl _),hO.cell l.v2 (fun e=>n5 e.symm),hO.cell l.v5 (fun e=>n6 e.symm),hO.cell l.v6 (fun e=>n7 e.symm),own_off l.sa (hO.block _ hlt n1),hn,l.ge,l.ne⟩
theorem LIn.copied {ms':List Nat} {S N N':Nat→Int} (l:LIn w lo A n c X b g e h b5 b6 y cy P m D ms Φ W) (h1:Lg W lo A n c X b g e h lo b5 b6 (lo+2) y n cy S N) (hO:Off (fun q=>q≠y) W W') (hn:W'.ownsRow lo 3 1 (.slice (some ⟨y,0,none⟩) b cy) b (icells N' b))
    (hΦ:Φ' S N') (hm:∀d∈ms',W'.heap[d]?=some (.deferred (some []))) (hy:y < b6) (hly:lo≤y):LIn w lo A n c X b g e h b5 b6 y cy P m D ms' Φ' W':=by
 obtain ⟨_,_,_,_,h3,h4,h6,h7,_⟩:=l
 have hb:Below lo W W':=hO.below (by omega) (fun k hk=>by omega)
 exact ⟨S,N',h1.new_nx hO hn,hΦ,hO.cell h3 (by show b6+1≠y;omega),h4.below hb,h6.trans hb,Nat.le_trans h7 hO.size,hm⟩
end
def LaidPost (X:Nat→Nat) (n m:Nat) (D:Nat→Nat) (S:Nat→Int):Prop:=
 ∀P Q,Ord2 X n P→Ord3 X n P Q→(∀k l,k < l→l < m→X (D k)=X (D l)→¬P (D l) (D k))→∃s,InOrder n Q S s
theorem sLaid_any {w:World} {T n c b g e h:Nat} {A:Option Addr} {X:Nat→Nat} (r:Rw w T A n c X b g e h) (hT:T≤w.heap.size) (P:Option Addr) (m cp:Nat) (D:Nat→Nat) (hD:Dips X n m D)
    (hP:Its w w.heap.size P m (fun k=>((D k:Nat):Int))):
    Calls Tryz.prog 75 #[.pointer (some ⟨g,0,none⟩),.slice P m cp] w fun e' w'=>∃(g' c':Nat) (S:Nat→Int),e'=.returned (.slice (some ⟨g',0,none⟩) n c')∧
     w'.ownsRow w.heap.size 3 1 (.slice (some ⟨g',0,none⟩) n c') n (icells S n)∧Below w.heap.size w w'∧LaidPost X n m D S:=by
 have hn:=r.small
 have hb1:0 < b:=Nat.lt_of_le_of_lt (Nat.zero_le _) (r.right 0 hn.1)
 have hm:m≤n:=by
  have:=pigeon n m (fun _=>true) D (fun i hi=>⟨(hD.is i hi).1,rfl⟩) hD.inj
  exact Nat.le_trans this (cnt_to _ _)
 have HD:=Lib.hid hD
 have HP:=Lib.hid hP
 have hr:=r.raise hT
 obtain ⟨lo,hlo⟩:∃lo,w.heap.size=lo:=⟨_,rfl⟩
 rw [hlo] at hr HP ⊢
 have HR:=Lib.hid hr
 obtain ⟨hn0,hn4,hb4,_,_⟩:=hn
 clear r hT hD hP
 obtain ⟨w1,hw1⟩:∃w1,w.alloc (.cells #[.pointer (some ⟨g,0,none⟩)] 120)=w1:=⟨_,rfl⟩
 have z1:w1.heap.size=lo+1:=by rw [←hw1,size_alloc,hlo]
 have k1:Below lo w w1:=by rw [←hw1,←hlo];exact (Below.refl _ _).alloc (Nat.le_refl _) _
 have l2:Lies w1 lo 120 [.pointer (some ⟨g,0,none⟩)]:=by rw [←hw1,←hlo];exact lies_new w _ _
 have hr1:=hr.below k1 (Nat.le_refl _)
 have a0:=hr1.c0
 have v2:=l2.cell 0
 obtain ⟨w2,hw2⟩:∃w2,w1.alloc (.cells #[.int .i64 (-1)] 3)=w2:=⟨_,rfl⟩
 have z2:w2.heap.size=lo+2:=by rw [←hw2,size_alloc,z1]
 have k2:Below (lo+1) w1 w2:=by rw [←hw2,←z1];exact (Below.refl _ _).alloc (Nat.le_refl _) _
 have l3:Lies w2 (lo+1) 3 [.int .i64 (-1)]:=by rw [←hw2,←z1];exact lies_new w1 _ _
 have hr2:=hr1.below (k2.mono (by omega)) (Nat.le_refl _)
 have a02:=hr2.c0
 have v22:=(l2.below k2 (by omega)).cell 0
 have HRep:=Lib.hid (repeat_any (lo+1) n 1 (-1) w2 hn4 l3)
 clear hr hr1
 refine (callsIn_wide (n:=0)).1 ?_
 refine callsIn_of_wp_marks Tryz.func75 rfl trivial ?_ rfl
 simp only [Tryz.ntmps75,List.size_toArray,List.length_cons,List.length_nil,Nat.reduceAdd,Nat.reduceSub,Array.replicate_succ,Array.replicate_zero,List.push_toArray,List.append_toArray,List.nil_append,List.cons_append]
 gi_wp2
 refine ⟨trivial,rfl,(callsIn_wide.2 HRep.out).mono ?_⟩
 rintro e' w3 ⟨rfl,ls,o3⟩
 rw [z2] at ls o3
 clear HRep
 have k3:Below (lo+2) w2 w3:=o3.below (by omega) (fun k hk=>by omega)
 obtain ⟨b5,z3⟩:∃b5,w3.heap.size=b5:=⟨_,rfl⟩
 have s3:=ls.lt
 rw [z3] at s3
 obtain ⟨w4,hw4⟩:∃w4,w3.alloc (.cells #[.slice none 0 0] 34)=w4:=⟨_,rfl⟩
 have z4:w4.heap.size=b5+1:=by rw [←hw4,size_alloc,z3]
 have k4:Below b5 w3 w4:=by rw [←hw4,←z3];exact (Below.refl _ _).alloc (Nat.le_refl _) _
 have l4:Lies w4 b5 34 [.slice none 0 0]:=by rw [←hw4,←z3];exact lies_new w3 _ _
 have f4:=l4.free 0
 have c4:=l4.cell 0
 obtain ⟨w5,hw5⟩:∃w5,w4.setCell ⟨b5,0,none⟩ (.slice (some ⟨lo+2,0,none⟩) n n)=w5:=⟨_,rfl⟩
 have z5:w5.heap.size=b5+1:=by rw [←hw5];simp [World.setCell];exact z4
 have k5:Below b5 w4 w5:=by rw [←hw5];exact (Below.refl b5 w4).setCell (p:=⟨b5,0,none⟩) (Nat.le_refl _) _
 have l5:Lies w5 b5 34 [.slice (some ⟨lo+2,0,none⟩) n n]:=by rw [←hw5];exact l4.put 0 _
 have K5:Below (lo+1) w1 w5:=(k2.trans (k3.mono (by omega))).trans ((k4.mono (by omega)).trans (k5.mono (by omega)))
 have L2:=l2.below K5 (by omega)
 have l2o:=L2
 have LS:=(ls.below k4 (by omega)).below k5 (by omega)
 have R5:=(HR.out.below k1 (Nat.le_refl _)).below (K5.mono (by omega)) (Nat.le_refl _)
 have g5:=L2.cell 0
 have h5:=R5.c2
 have HCl:=Lib.hid (sClone_any (cc:=b) (o:=1) (m:=b) R5.heads (by omega) hb4)
 clear l2 v2 hw1 a0 hw2 z1 k2 l3 hr2 a02 v22 ls o3 k3 l4 k4 k5
 gi_wp2
 refine ⟨trivial,rfl,(callsIn_wide.2 HCl.out).mono ?_⟩
 rintro e' w6 ⟨v6,rfl,hy,k6⟩
 rw [z5] at hy k6
 clear HCl
 obtain ⟨y,cy,rfl,hy1,hy2,hy3,hy4⟩:=owns_some hy hb1
 obtain ⟨b6,z6⟩:∃b6,w6.heap.size=b6:=⟨_,rfl⟩
 rw [z6] at hy2
 have s6:=k6.size
 rw [z5,z6] at s6
 obtain ⟨w7,hw7⟩:∃w7,w6.alloc (.cells #[.slice none 0 0] 34)=w7:=⟨_,rfl⟩
 have z7:w7.heap.size=b6+1:=by rw [←hw7,size_alloc,z6]
 have k7:Below b6 w6 w7:=by rw [←hw7,←z6];exact (Below.refl _ _).alloc (Nat.le_refl _) _
 have l7:Lies w7 b6 34 [.slice none 0 0]:=by rw [←hw7,←z6];exact lies_new w6 _ _
 have f7:=l7.free 0
 have c7:=l7.cell 0
 obtain ⟨w8,hw8⟩:∃w8,w7.setCell ⟨b6,0,none⟩ (.slice (some ⟨y,0,none⟩) b cy)=w8:=⟨_,rfl⟩
 have z8:w8.heap.size=b6+1:=by rw [←hw8];simp [World.setCell];exact z7
 have k8:Below b6 w7 w8:=by rw [←hw8];exact (Below.refl b6 w7).setCell (p:=⟨b6,0,none⟩) (Nat.le_refl _) _
 have l8:Lies w8 b6 34 [.slice (some ⟨y,0,none⟩) b cy]:=by rw [←hw8];exact l7.put 0 _
 obtain ⟨w9,hw9⟩:∃w9,w8.alloc (.cells #[.nilFunc] 177)=w9:=⟨_,rfl⟩
 have z9:w9.heap.size=b6+2:=by rw [←hw9,size_alloc,z8]
 have k9:Below (b6+1) w8 w9:=by rw [←hw9,←z8];exact (Below.refl _ _).alloc (Nat.le_refl _) _
 have l9:Lies w9 (b6+1) 177 [.nilFunc]:=by rw [←hw9,←z8];exact lies_new w8 _ _
 have f9:=l9.free 0
 have c9:=l9.cell 0
 obtain ⟨w10,hw10⟩:∃w10,w9.setCell ⟨b6+1,0,none⟩ (.func (.func 118) #[] #[.pointer (some ⟨b6,0,none⟩),.pointer (some ⟨lo,0,none⟩),.pointer (some ⟨b5,0,none⟩)])=w10:=⟨_,rfl⟩
 have z10:w10.heap.size=b6+2:=by rw [←hw10];simp [World.setCell];exact z9
 have k10:Below (b6+1) w9 w10:=by rw [←hw10];exact (Below.refl (b6+1) w9).setCell (p:=⟨b6+1,0,none⟩) (Nat.le_refl _) _
 have l10:Lies w10 (b6+1) 177 [(.func (.func 118) #[] #[.pointer (some ⟨b6,0,none⟩),.pointer (some ⟨lo,0,none⟩),.pointer (some ⟨b5,0,none⟩)])]:=by rw [←hw10];exact l9.put 0 _
 have K10:Below (b6+1) w8 w10:=k9.trans k10
 have K8:Below b6 w6 w10:=(k7.trans k8).trans (K10.mono (by omega))
 have K6:Below (b5+1) w5 w10:=k6.trans (K8.mono (by omega))
 have HBk:=Lib.hid (backward_any P m cp w10)
 clear l7 l9 k9 k10 k7 k8 k6 L2 R5 g5 h5
 gi_wp2
 refine ⟨trivial,rfl,(callsIn_wide.2 HBk.out).mono ?_⟩
 rintro e' w11 ⟨rfl,hw11⟩
 rw [z10]
 clear HBk
 have z11:w11.heap.size=b6+3:=by rw [hw11,size_alloc,z10]
 have k11:Below (b6+2) w10 w11:=by rw [hw11,←z10];exact (Below.refl _ _).alloc (Nat.le_refl _) _
 have l11:Lies w11 (b6+2) 34 [.slice P m cp]:=by rw [hw11,←z10];exact lies_new w10 _ _
 gi_wp2
 rw [←hw11]
 have ks:lo+2 < b5:=s3
 have ky:y < b6:=hy2
 have k5b:b5 < b6:=by omega
 have kl:lo+2 < b6:=by omega
 have K11:Below lo w w11:=(k1.trans (K5.mono (by omega))).trans ((K6.mono (by omega)).trans (k11.mono (by omega)))
 have L0:LIn w lo A n c X b g e h b5 b6 y cy P m D [] (One X n b m D m) w11:=by
  have K5w:Below (lo+1) w5 w11:=(K6.mono (by omega)).trans (k11.mono (by omega))
  have l2':=(l2o.below K5w (by omega))
  have l5':=l5.below (K6.trans (k11.mono (by omega))) (by omega)
  have lS:=LS.below (K6.trans (k11.mono (by omega))) (by omega)
  have l8':=l8.below (K10.trans (k11.mono (by omega))) (by omega)
  have l10':=l10.below k11 (by omega)
  refine ⟨fun _=> -1,fun j=>hdI X n (1+j),⟨HR.out.below K11 (Nat.le_refl _),l2'.cell 0,l5'.cell 0,l8'.cell 0,owns_lies lS (by omega) (by rw [icells_length]) (by unfold maxLen;omega),own_off (own_base hy (by omega)) ((K8.trans (k11.mono (by omega))).block y ky),by omega,by omega⟩,
   One.start (fun x _=>by show ((hd X n (1+x):Nat):Int)=_;rw [Nat.add_comm]) (fun _ _=>rfl),l10'.cell 0,HP.out.below K11,K11,by omega,fun d hd'=>by cases hd'⟩
 clear hw4 hw5 z4
 refine back_law P m cp (b6+2) z11 (by omega) (by omega) (l11.cell 0) (ints_of_its (HP.out.below K11)) rfl rfl
  (fun i W=>Hid (LIn w lo A n c X b g e h b5 b6 y cy P m D [] (One X n b m D (m - i)) W)) ?inv (Lib.hid (by rw [Nat.sub_zero];exact L0)) (fun x=>{ tmps:=#[.pointer (some ⟨g,0,none⟩),.slice P m cp,.pointer (some ⟨lo,0,none⟩),undef,.slice none 0 0,.pointer (some ⟨b5,0,none⟩),.pointer (some ⟨b6,0,none⟩),.pointer (some ⟨b6+1,0,none⟩),undef,.int .i64 x.2,undef,undef,undef,undef,undef,.slice (some ⟨lo+1,0,none⟩) 1 1,.pointer (some ⟨g,0,none⟩),.pointer (some ⟨g,0,none⟩),.pointer (some ⟨g,0,none⟩),.slice A n c,.int .i64 (n:Int),.slice (some ⟨lo+2,0,none⟩) n n,.pointer (some ⟨g,0,none⟩),.pointer (some ⟨g,0,none⟩),.pointer (some ⟨g,2,none⟩),.slice (some ⟨h,0,none⟩) (b+1) (b+1),.slice (some ⟨h,1,none⟩) b b,.slice (some ⟨y,0,none⟩) b cy,.func (.func 118) #[] #[.pointer (some ⟨b6,0,none⟩),.pointer (some ⟨lo,0,none⟩),.pointer (some ⟨b5,0,none⟩)],.slice P m cp,.func (.func 114) #[] #[.pointer (some ⟨b6+2,0,none⟩)],.int .i64 (x.1:Int),.int .i64 x.2,undef,undef,undef,undef,undef,undef,undef,undef,undef,undef,undef,undef,undef,undef,undef,undef,undef,undef,undef,undef,undef,undef,undef,undef,undef,undef,undef,undef,undef,undef,undef,undef,undef,undef,undef,undef,undef,undef,undef,undef,undef,undef,undef,undef,undef,undef,undef,undef,undef,undef,undef,undef,undef,undef,undef,undef,undef,undef,undef,undef,undef,undef,undef,undef,undef,undef,undef,undef,undef,undef],defers:=[] }) ?assign ?body ?done
 case inv=>
  intro i A1 A2 hi hg
  exact Lib.hid (hi.out.grown hg (by omega) (fun d hd'=>by cases hd') ky k5b kl)
 case assign=>
  intro l x W K hK
  gi_wp2
  exact hK
 case body=>
  rintro l i ⟨k,v⟩ W hs hi ⟨hx1,ad,hA,hc⟩ hLI
  have hx1:k+i+1=m:=hx1
  have hkm:k < m:=by omega
  obtain ⟨S,N,hL,hOn,hF,hPi,hB,hsz,_⟩:=hLI.out
  obtain ⟨ad',e',_,hc',_⟩:=hPi k hkm
  have hv:v=((D k:Nat):Int):=by
   rw [hA] at e'
   cases e'
   have hc:W.cell? (ad.add k)=some (.int .i64 v):=hc
   rw [hc'] at hc
   injection hc with hc
   injection hc with _ hc
   exact hc.symm
  have hOn:One X n b m D (k+1) S N:=by rw [show m - i=k+1 by omega] at hOn;exact hOn
  have hpos:=HD.out.pos_lt hkm
  have HC:=Lib.hid (laid1_any hL (HD.out.is k hkm).1 hpos (hOn.room HD.out HR.out.right hkm))
  have HS:=Lib.hid (hOn.step HD.out hkm)
  have HLI:=hLI
  subst hv
  clear hLI hL hOn hPi hc hc' e' hA hpos
  gi_wp2
  refine ⟨trivial,rfl,(CallsIn.inRound l (callsIn_wide.2 HC.out)).mono ?_⟩
  rintro e2 W2 ⟨rfl,hL2,hO2⟩
  have HL2:=HLI.out.two hL2 hO2 HS.out (fun d hd'=>by cases hd') ky (by omega) kl
  have HL2':=Lib.hid HL2
  obtain ⟨_,_,_,_,_,hPi,_⟩:=HL2
  gi_wp2
  refine ⟨⟨hO2.less (fun q hq=>?_),ints_of_its hPi⟩,?_⟩
  · rcases hq with rfl | rfl | rfl <;> exact ⟨by omega,by omega⟩
  · rw [show m - (i+1)=k by omega]
    exact HL2'
 case done=>
  rintro D1 W hD1 hLI hk1
  rw [Nat.sub_self] at hLI
  obtain ⟨S,N,hL,hOn,hF,hPi,hB,hsz,_⟩:=hLI.out
  have hLa:=hOn.done HD.out
  have hDl:=(Array.getElem?_eq_some_iff.1 hk1).1
  have Ld:=hL.drew
  obtain ⟨Wc,hC,hnx,hOc⟩:=int_copy_own (o:=0) (dm:=b) (dc:=cy) (m:=b+1) (c:=b+1) (k:=b) (V:=hdI X n) (ad:=⟨h,0,none⟩) Ld.nx (Nat.min_eq_right (by omega)).symm (by omega) (fun j hj=>by
   rw [Addr.add_mid,Nat.zero_add]
   exact Ld.row.hd_ (by omega))
  have u6:=Ld.v6
  have u2:=Ld.v2
  have u3:=Ld.row.c2
  rw [icells_congr (U:=overI N 0 b (hdI X n)) (U':=hdI X n) (fun j hj=>by unfold overI;rw [if_pos (by omega)];rfl)] at hnx
  have hO2:Off (fun q=>q≠y) W Wc:=(off_drew _ _).trans hOc
  have hkc:Wc.heap[D1]?=some (.deferred (some [])):=(hO2.block D1 hDl (by omega)).trans hk1
  obtain ⟨k0,hk0,hk0n,hTw,hLast⟩:=two_first hn0 HD.out hLa (N:=hdI X n) (B:=b) (fun x _=>rfl) HR.out.right
  have hLc:LIn w lo A n c X b g e h b5 b6 y cy P m D [D1] (fun S' N'=>S'=S∧N'=hdI X n) Wc:=
   hLI.out.copied (S:=S) (N:=N) hL hO2 hnx ⟨rfl,rfl⟩ (fun d hd'=>by
    obtain rfl:d=D1:=by simpa using hd'
    exact hkc) ky (by omega)
  have Lc:=hL.new_nx hO2 hnx
  have HC2:=Lib.hid (laid2_any Lc (show n - 1 < n by omega) hk0n hk0)
  have x2:=Lc.v2
  have x0:=Lc.row.c0
  have hw1:IntKind.i64.wrap ((n:Int) - 1)=((n - 1:Nat):Int):=by rw [IntWalk.i64_in _ (by omega)];omega
  have HLc:=Lib.hid hLc
  have HTw:=Lib.hid hTw
  have HLast:=Lib.hid hLast
  have HLa:=Lib.hid hLa
  have hsW:b6+3≤W.heap.size:=by omega
  have hsc:=hO2.size
  clear hLI hL hOn hF hPi hB Ld hnx hOc hLc Lc hTw hLast hLa hk0 hO2 hk1
  gi_wp2
  gi_region
  gi_wp2
  refine ⟨trivial,rfl,(callsIn_wide.2 HC2.out).mono ?_⟩
  rintro e3 W3 ⟨rfl,hL3,hO3⟩
  have HL3:=Lib.hid (HLc.out.two (Φ':=fun S' N'=>Two X n b S 0 S' N'∧HasLast n S') hL3 hO3 ⟨HTw.out,HLast.out⟩ (fun d hd'=>by
      obtain rfl:d=D1:=by simpa using hd'
      omega) ky (by omega) kl)
  have y5:=hL3.v5
  clear HC2 HLc hkc hC x2 x0 u6 u2 u3 hw1 HTw HLast hO3 hL3
  gi_wp2
  gi_loopw [53] (fun v wr=>∃i:Nat,i≤n∧v=.int .i64 (i:Int)∧Hid (LIn w lo A n c X b g e h b5 b6 y cy P m D [D1] (fun S' N'=>Two X n b S i S' N'∧HasLast n S') wr)) (fun v _=>n - (intOf v).toNat)
  case atStart=>exact ⟨0,Nat.zero_le _,rfl,HL3⟩
  case round=>
   clear HL3 y5
   obtain ⟨i,hi,rfl,hLr⟩:=hrel
   by_cases hlt:i < n
   · have hlti:(i:Int) < (n:Int):=by omega
     obtain ⟨S',N',hL4,⟨hT4,hl4⟩,_⟩:=hLr.out
     have hc4:=hL4.sa_cell hlt
     have r2:=hL4.v2
     have r1:=hL4.row.c1
     rcases hT4.round HR.out.right hlt hl4 with ⟨hv,hT5,hl5⟩ | ⟨q,hq,hv,hu,hT5,hl5⟩ | ⟨q,k1,hq,hv,hu,hk1,hk1n,hT5,hl5⟩
     · have HL5:=Lib.hid (hLr.out.turn (Φ':=fun S' N'=>Two X n b S (i+1) S' N'∧HasLast n S') hL4 ⟨hT5,hl5⟩)
       clear hLr hL4 hT4 hl4 hT5 hl5
       rcases hv with hv | hv
       all_goals
        rw [hv] at hc4
        clear hv
        gi_wp2
        go_roundw
        case rel=>exact ⟨i+1,by omega,by go_num,HL5⟩
        case measure=>simp [intOf];omega
     · have HL5:=Lib.hid (hLr.out.turn (Φ':=fun S' N'=>Two X n b S (i+1) S' N'∧HasLast n S') hL4 ⟨hT5,hl5⟩)
       have hcu:=hL4.row.up_ (p:=q) (by omega)
       rw [hu] at hcu
       rw [hv] at hc4
       have hw2:IntKind.i64.wrap (((q+1:Nat):Int) - 1)=(q:Int):=by rw [IntWalk.i64_in _ (by omega)];omega
       have d0:(0:Int) < ((q+1:Nat):Int):=by omega
       have hqn:(q:Int) < (n:Int):=by omega
       obtain ⟨q1,hq1⟩:∃q1,q+1=q1:=⟨_,rfl⟩
       rw [hq1] at hw2 hc4 d0
       clear hLr hL4 hT4 hl4 hT5 hl5 hv hu hq hq1
       gi_wp2
       go_roundw
       case rel=>exact ⟨i+1,by omega,by go_num,HL5⟩
       case measure=>simp [intOf];omega
     · have HC:=Lib.hid (laid2_any hL4 (show q < n by omega) hk1n hk1)
       have HT5:=Lib.hid (And.intro hT5 hl5)
       have hcu:=hL4.row.up_ (p:=q) (by omega)
       rw [hu] at hcu
       rw [hv] at hc4
       have hw2:IntKind.i64.wrap (((q+1:Nat):Int) - 1)=(q:Int):=by rw [IntWalk.i64_in _ (by omega)];omega
       have d0:(0:Int) < ((q+1:Nat):Int):=by omega
       have hqn:(q:Int) < (n:Int):=by omega
       obtain ⟨q1,hq1⟩:∃q1,q+1=q1:=⟨_,rfl⟩
       rw [hq1] at hw2 hc4 d0
       clear hL4 hT4 hl4 hT5 hl5 hv hu hq hq1 hk1
       gi_wp2
       refine ⟨trivial,rfl,(callsIn_wide.2 HC.out).mono ?_⟩
       rintro e4 W4 ⟨rfl,hL5,hO5⟩
       have HL5:=Lib.hid (hLr.out.two (Φ':=fun S' N'=>Two X n b S (i+1) S' N'∧HasLast n S') hL5 hO5 HT5.out (fun d hd'=>by
        obtain rfl:d=D1:=by simpa using hd'
        omega) ky (by omega) kl)
       clear hL5 hO5 HC hc4 hcu hLr r1 r2
       gi_wp2
       go_roundw
       case rel=>exact ⟨i+1,by omega,by go_num,HL5⟩
       case measure=>simp [intOf];omega
   · have hin:i=n:=by omega
     have hge:¬((i:Int) < (n:Int)):=by omega
     rw [hin] at hLr
     obtain ⟨S3,N3,hL6,⟨hT6,hl6⟩,hF6,hPi6,hB6,hsz6,hm6⟩:=hLr.out
     have h2:=hT6.all HR.out.right HLa.out hl6
     have HSo:=Lib.hid (fun (Pp:Nat→Nat→Prop) (hP:Ord2 X n Pp) hDd=>hT6.sorted HR.out.right HLa.out hP hDd)
     have hk6:=hm6 D1 (List.mem_singleton.2 rfl)
     have hD6:=(Array.getElem?_eq_some_iff.1 hk6).1
     have Ld:=hL6.drew
     obtain ⟨Wd,hC,hnx,hOc⟩:=int_copy_own (o:=0) (dm:=b) (dc:=cy) (m:=b) (c:=b) (k:=b) (V:=fun x=>hdI X n (x+1)) (ad:=⟨h,1,none⟩) Ld.nx (Nat.min_self b).symm (by omega) (fun j hj=>by
      rw [Addr.add_mid,Nat.add_comm]
      exact Ld.row.hd_ (by omega))
     rw [icells_congr (U:=overI N3 0 b (fun x=>hdI X n (x+1))) (U':=fun x=>hdI X n (x+1)) (fun j hj=>by unfold overI;rw [if_pos (by omega)];rfl)] at hnx
     have u6:=Ld.v6
     have u2:=Ld.v2
     have u3:=Ld.row.c2
     have hO2:Off (fun q=>q≠y) wr Wd:=(off_drew _ _).trans hOc
     have hkd:Wd.heap[D1]?=some (.deferred (some [])):=(hO2.block D1 hD6 (by omega)).trans hk6
     have hLd:LIn w lo A n c X b g e h b5 b6 y cy P m D [D1] (Three X n b S3 n) Wd:=
      hLr.out.copied (S:=S3) (N:=N3) hL6 hO2 hnx (Three.start (fun x _=>rfl)) (fun d hd'=>by
       obtain rfl:d=D1:=by simpa using hd'
       exact hkd) ky (by omega)
     have Lc:=hL6.new_nx hO2 hnx
     have x5:=Lc.v5
     have hzd:Wd.heap.size=Wd.heap.size:=rfl
     have HBk:=Lib.hid (backward_any (some ⟨lo+2,0,none⟩) n n Wd)
     have HI:=Lib.hid (ints_of_own Lc.sa)
     have HLd:=Lib.hid hLd
     have H2:=Lib.hid h2
     have hszd:b6+2≤Wd.heap.size:=Nat.le_trans hsz6 hO2.size
     have hDd:D1 < Wd.heap.size:=Nat.lt_of_lt_of_le hD6 hO2.size
     clear hLr hL6 hT6 hl6 hF6 hPi6 hB6 hm6 h2 Ld hnx hOc hO2 hLd Lc hk6
     gi_wp2
     gi_region
     gi_wp2
     refine ⟨trivial,rfl,(callsIn_wide.2 HBk.out).mono ?_⟩
     rintro e7 W7 ⟨rfl,hW7⟩
     obtain ⟨t,hzt⟩:∃t,Wd.heap.size=t:=⟨_,rfl⟩
     rw [hzt] at hszd hDd ⊢
     have z7':W7.heap.size=t+1:=by rw [hW7,size_alloc,hzt]
     have k7':Below t Wd W7:=by rw [hW7,←hzt];exact (Below.refl _ _).alloc (Nat.le_refl _) _
     have l7':Lies W7 t 34 [.slice (some ⟨lo+2,0,none⟩) n n]:=by rw [hW7,←hzt];exact lies_new Wd _ _
     gi_wp2
     rw [←hW7]
     have HL7:LIn w lo A n c X b g e h b5 b6 y cy P m D [D1] (Three X n b S3 n) W7:=HLd.out.off (p:=fun k=>k < t) ⟨k7'.os,k7'.tape,k7'.output,k7'.size,fun k hk hp=>k7'.block k hp⟩ (fun k hk=>by omega) (fun d hd'=>by
      obtain rfl:d=D1:=by simpa using hd'
      exact hDd) ky k5b kl
     have HI7:IntsAt W7 (some ⟨lo+2,0,none⟩) n:=fun j hj=>by
      obtain ⟨ad,v,e,hc⟩:=HI.out j hj
      exact ⟨ad,v,e,(k7'.cell (by rw [←hzt];exact cell_in hc)).trans hc⟩
     clear HLd HI HBk hkd x5 hC u6 u2 u3
     refine back_law (some ⟨lo+2,0,none⟩) n n t z7' (by omega) (by omega) (l7'.cell 0) HI7 rfl rfl
      (fun i W=>Hid (LIn w lo A n c X b g e h b5 b6 y cy P m D [D1] (Three X n b S3 (n - i)) W)) ?inv2 (Lib.hid (by rw [Nat.sub_zero];exact HL7)) (fun x=>{ tmps:=#[.pointer (some ⟨g,0,none⟩),.slice P m cp,.pointer (some ⟨lo,0,none⟩),undef,.slice none 0 0,.pointer (some ⟨b5,0,none⟩),.pointer (some ⟨b6,0,none⟩),.pointer (some ⟨b6+1,0,none⟩),undef,undef,.func (.func 119) #[] #[.pointer (some ⟨b5,0,none⟩),.pointer (some ⟨b6,0,none⟩),.pointer (some ⟨lo,0,none⟩)],undef,u12,undef,.int .i64 x.2,.slice (some ⟨lo+1,0,none⟩) 1 1,.pointer (some ⟨g,0,none⟩),.pointer (some ⟨g,0,none⟩),.pointer (some ⟨g,0,none⟩),.slice A n c,.int .i64 (n:Int),.slice (some ⟨lo+2,0,none⟩) n n,.pointer (some ⟨g,0,none⟩),.pointer (some ⟨g,0,none⟩),.pointer (some ⟨g,2,none⟩),.slice (some ⟨h,0,none⟩) (b+1) (b+1),.slice (some ⟨h,1,none⟩) b b,.slice (some ⟨y,0,none⟩) b cy,.func (.func 118) #[] #[.pointer (some ⟨b6,0,none⟩),.pointer (some ⟨lo,0,none⟩),.pointer (some ⟨b5,0,none⟩)],.slice P m cp,.func (.func 114) #[] #[.pointer (some ⟨b6+2,0,none⟩)],undef,undef,undef,undef,undef,.slice (some ⟨y,0,none⟩) b cy,.pointer (some ⟨g,0,none⟩),.pointer (some ⟨g,0,none⟩),.pointer (some ⟨g,2,none⟩),.slice (some ⟨h,0,none⟩) (b+1) (b+1),.int .i64 (b:Int),.func (.func 119) #[] #[.pointer (some ⟨b5,0,none⟩),.pointer (some ⟨b6,0,none⟩),.pointer (some ⟨lo,0,none⟩)],.func (.func 119) #[] #[.pointer (some ⟨b5,0,none⟩),.pointer (some ⟨b6,0,none⟩),.pointer (some ⟨lo,0,none⟩)],.pointer (some ⟨g,0,none⟩),.pointer (some ⟨g,0,none⟩),.pointer (some ⟨g,0,none⟩),.slice A n c,.int .i64 (n:Int),.int .i64 ((n - 1:Nat):Int),.tuple #[],.slice (some ⟨lo+2,0,none⟩) n n,.int .i64 (n:Int),.int .i64 (n:Int),.bool false,u55,u56,u57,u58,u59,u60,u61,u62,u63,u64,u65,u66,u67,u68,u69,u70,u71,u72,u73,u74,.slice (some ⟨y,0,none⟩) b cy,.pointer (some ⟨g,0,none⟩),.pointer (some ⟨g,0,none⟩),.pointer (some ⟨g,2,none⟩),.slice (some ⟨h,0,none⟩) (b+1) (b+1),.slice (some ⟨h,1,none⟩) b b,.int .i64 (b:Int),.slice (some ⟨lo+2,0,none⟩) n n,.func (.func 114) #[] #[.pointer (some ⟨t,0,none⟩)],.int .i64 (x.1:Int),.int .i64 x.2,undef,undef,undef,undef,undef,undef,undef,undef,undef,undef,undef,undef,undef,undef,undef,undef,undef],defers:=[] }) ?assign2 ?body2 ?done2
     case inv2=>
      intro i A1 A2 hi hg
      exact Lib.hid (hi.out.grown hg (by omega) (fun d hd'=>by
       obtain rfl:d=D1:=by simpa using hd'
       omega) ky k5b kl)
     case assign2=>
      intro l x W K hK
      gi_wp2
      exact hK
     case body2=>
      rintro l i' ⟨k,v⟩ W hs hi' ⟨hx1,ad,hA,hc⟩ hLI
      have hx1:k+i'+1=n:=hx1
      have hc:W.cell? (ad.add k)=some (.int .i64 v):=hc
      cases hA
      obtain ⟨S',N',hL4,hT4,hF4,_⟩:=hLI.out
      have hT4:Three X n b S3 (k+1) S' N':=by rw [show n - i'=k+1 by omega] at hT4;exact hT4
      have hkn:k < n:=by omega
      have hv4:v=S' k:=by
       have:=hL4.sa_cell hkn
       rw [Addr.add_mid,Nat.zero_add,this] at hc
       injection hc with hc
       injection hc with _ hc
       exact hc.symm
      clear hc
      have r2:=hL4.v2
      have r1:=hL4.row.c1
      have hsub:n - (i'+1)=k:=by omega
      rw [hsub]
      have hSt:∀W',LIn w lo A n c X b g e h b5 b6 y cy P m D [D1] (Three X n b S3 k) W'→IntsAt W' (some ⟨lo+2,0,none⟩) n:=fun W' hl=>by
       obtain ⟨_,_,hl,_⟩:=hl
       exact ints_of_own hl.sa
      rcases hT4.round H2.out HR.out.right hkn with ⟨hv,hT5⟩ | ⟨q,hq,hv,hu,hT5⟩ | ⟨q,k1,hq,hv,hu,hk1,hk1n,hT5⟩
      · have HL5:=Lib.hid (hLI.out.turn (Φ':=Three X n b S3 k) hL4 hT5)
        have HI5:=Lib.hid (hSt W HL5.out)
        rw [←hv4] at hv
        clear hLI hL4 hT4 hT5 hSt hv4
        rcases hv with rfl | rfl
        all_goals
         gi_wp2
         exact ⟨⟨Off.refl _ _,HI5.out⟩,HL5⟩
      · have HL5:=Lib.hid (hLI.out.turn (Φ':=Three X n b S3 k) hL4 hT5)
        have HI5:=Lib.hid (hSt W HL5.out)
        have hcu:=hL4.row.up_ (p:=q) (by omega)
        rw [hu] at hcu
        rw [←hv4] at hv
        have hw2:IntKind.i64.wrap (((q+1:Nat):Int) - 1)=(q:Int):=by rw [IntWalk.i64_in _ (by omega)];omega
        have d0:(0:Int) < ((q+1:Nat):Int):=by omega
        have hqn:(q:Int) < (n:Int):=by omega
        obtain ⟨q1,hq1⟩:∃q1,q+1=q1:=⟨_,rfl⟩
        rw [hq1] at hw2 hv d0
        subst hv
        clear hLI hL4 hT4 hT5 hu hq hq1 hSt hv4
        gi_wp2
        exact ⟨⟨Off.refl _ _,HI5.out⟩,HL5⟩
      · have HC:=Lib.hid (laid1_any hL4 (show q < n by omega) hk1n hk1)
        have HT5:=Lib.hid hT5
        have hcu:=hL4.row.up_ (p:=q) (by omega)
        rw [hu] at hcu
        rw [←hv4] at hv
        have hw2:IntKind.i64.wrap (((q+1:Nat):Int) - 1)=(q:Int):=by rw [IntWalk.i64_in _ (by omega)];omega
        have d0:(0:Int) < ((q+1:Nat):Int):=by omega
        have hqn:(q:Int) < (n:Int):=by omega
        have HSt:=Lib.hid hSt
        obtain ⟨q1,hq1⟩:∃q1,q+1=q1:=⟨_,rfl⟩
        rw [hq1] at hw2 hv d0
        subst hv
        clear hL4 hT4 hT5 hu hq hq1 hk1 hSt hv4
        gi_wp2
        refine ⟨trivial,rfl,(CallsIn.inRound l (callsIn_wide.2 HC.out)).mono ?_⟩
        rintro e4 W4 ⟨rfl,hL5,hO5⟩
        have HL5:=Lib.hid (hLI.out.two (Φ':=Three X n b S3 k) hL5 hO5 HT5.out (fun d hd'=>by
         obtain rfl:d=D1:=by simpa using hd'
         omega) ky (by omega) kl)
        have HO5:=Lib.hid hO5
        clear hL5 hO5 HC hcu hLI r1 r2
        gi_wp2
        refine ⟨⟨HO5.out.less (fun q hq=>?_),HSt.out _ HL5.out⟩,HL5⟩
        rcases hq with rfl | rfl | rfl <;> exact ⟨by omega,by omega⟩
     case done2=>
      rintro D2 W hD2 hLI hk2
      rw [Nat.sub_self] at hLI
      obtain ⟨S',N',hL4,hT4,hF4,hPi4,hB4,hsz4,hm4⟩:=hLI.out
      have hk1:=hm4 D1 (List.mem_singleton.2 rfl)
      have hD2l:=(Array.getElem?_eq_some_iff.1 hk2).1
      have r5:=hL4.v5
      have HPost:Hid (LaidPost X n m D S'):=Lib.hid fun Pp Qq hPp hQq hDd=>hT4.all H2.out HR.out.right hQq (HSo.out Pp hPp hDd)
      have Hsa:=Lib.hid hL4.sa
      have hMM:Marks (b6+2) W.heap.size ({ target:=.collected D2,args:=#[] }::{ target:=.collected D1,args:=#[] }::[]) W:=⟨D2,rfl,by omega,hD2l,hk2,D1,rfl,by omega,by omega,hk1,trivial⟩
      clear hLI hL4 hT4 hF4 hPi4 hm4
      gi_wp2
      exact hMM.out (by omega) fun w' hw'=>⟨.slice (some ⟨lo+2,0,none⟩) n n,by simp [results,Tryz.results75,go_sem],lo+2,n,S',rfl,own_off Hsa.out (hw'.block (lo+2) (by omega)),hB4.trans (hw'.mono (by omega)),HPost.out⟩
end Go.Proofs.YtcidobpbepeakaaGreat
