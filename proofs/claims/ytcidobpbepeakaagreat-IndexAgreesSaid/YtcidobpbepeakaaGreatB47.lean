/- Texts of ours, joined: IdxAny. -/
import Derived.Test.YtcidobpbepeakaaGreatB46
set_option maxRecDepth 1000000
set_option maxHeartbeats 6400000
namespace Go.Proofs.YtcidobpbepeakaaGreat
open Go.RowKit
structure IxPs (B:Nat) (w:World) (S:List Sec) (s:Nat→Nat) (tv fv ov yv lv:Value):Prop where
 fit:FitX S
 sa:IsSA (symI S) (lenT S) s
 text:TxtAt B w tv S
 find:FndX B w fv S s
 own:∃gm gl cl,ov=.pointer (some ⟨gm,0,none⟩)∧Mx w B gm gl cl (lenT S) (owS S s) 255
 tally:TalAt B w yv (lenT S) (owS S s) (lcpI (symI S) (lenT S) fun i=>((s i:Nat):Int))
 list:LisAt B w lv (lenT S) (owS S s)
theorem TxtAt.keepB {B:Nat} {w w':World} {v:Value} {S:List Sec} (h:TxtAt B w v S) (hb:∀k,B≤k→k < w.heap.size→w'.heap[k]?=w.heap[k]?):TxtAt B w' v S:=by
 obtain ⟨g,X,cx,y,cy,T,h1,h2⟩:=h
 exact ⟨g,X,cx,y,cy,T,h1,h2.keep_ hb⟩
theorem FndX.keepB {B:Nat} {w w':World} {v:Value} {S:List Sec} {s:Nat→Nat} (h:FndX B w v S s) (hs:w.heap.size≤w'.heap.size) (hb:∀k,B≤k→k < w.heap.size→w'.heap[k]?=w.heap[k]?):FndX B w' v S s:=by
 rcases h with h | ⟨h0,g,a,h1,h2⟩
 · exact .inl h
 · exact .inr ⟨h0,g,a,h1,h2.keepB hs hb⟩
theorem TalAt.keepB {B:Nat} {w w':World} {v:Value} {n:Nat} {D L:Nat→Int} (h:TalAt B w v n D L) (hs:w.heap.size≤w'.heap.size) (hb:∀k,B≤k→k < w.heap.size→w'.heap[k]?=w.heap[k]?):TalAt B w' v n D L:=by
 obtain ⟨g,gv,gw,av,ws,h1,h2⟩:=h
 exact ⟨g,gv,gw,av,ws,h1,h2.keepB hs hb⟩
theorem LisAt.keepB {B:Nat} {w w':World} {v:Value} {n:Nat} {V:Nat→Int} (h:LisAt B w v n V) (hs:w.heap.size≤w'.heap.size) (hb:∀k,B≤k→k < w.heap.size→w'.heap[k]?=w.heap[k]?):LisAt B w' v n V:=by
 obtain ⟨g,A,c,gb,pr,h1,h2⟩:=h
 exact ⟨g,A,c,gb,pr,h1,h2.keepB hs hb⟩
theorem IxPs.keepB {B:Nat} {w w':World} {S:List Sec} {s:Nat→Nat} {tv fv ov yv lv:Value} (h:IxPs B w S s tv fv ov yv lv) (hs:w.heap.size≤w'.heap.size) (hb:∀k,B≤k→k < w.heap.size→w'.heap[k]?=w.heap[k]?):IxPs B w' S s tv fv ov yv lv:=by
 obtain ⟨gm,gl,cl,h1,h2⟩:=h.own
 exact ⟨h.fit,h.sa,h.text.keepB hb,h.find.keepB hs hb,⟨gm,gl,cl,h1,h2.keepB hs hb⟩,h.tally.keepB hs hb,h.list.keepB hs hb⟩
def IdxAt (B:Nat) (w:World) (v:Value) (S:List Sec):Prop:=∃(g:Nat) (s:Nat→Nat) (tv fv ov yv lv:Value),v=.pointer (some ⟨g,0,none⟩)∧B≤g∧Lies w g 74 [tv,fv,ov,yv,lv]∧IxPs B w S s tv fv ov yv lv
theorem IdxAt.keepB {B:Nat} {w w':World} {v:Value} {S:List Sec} (h:IdxAt B w v S) (hs:w.heap.size≤w'.heap.size) (hb:∀k,B≤k→k < w.heap.size→w'.heap[k]?=w.heap[k]?):IdxAt B w' v S:=by
 obtain ⟨g,s,tv,fv,ov,yv,lv,rfl,hB,hl,hp⟩:=h
 exact ⟨g,s,tv,fv,ov,yv,lv,rfl,hB,hl.same (hb g hB hl.lt),hp.keepB hs hb⟩
theorem ixRight_any (A:Option Addr) (n c:Nat) (w:World) (hn:n≤maxLen):Calls Tryz.prog 13 #[.slice A n c] w fun e w'=>e=.returned (.bool (decide (1≤n∧n≤256)))∧w=w':=by
 have hm:n≤9223372036854775807:=by unfold maxLen at hn;omega
 by_cases h1:1≤n
 · by_cases h2:n≤256
   · have i1:(1:Int)≤(n:Int):=by omega
     have i2:(n:Int)≤256:=by omega
     have d1:decide (1≤n∧n≤256)=true:=decide_eq_true ⟨h1,h2⟩
     rw [d1]
     clear h1 h2 d1
     go_enter Tryz.func13,Tryz.ntmps13
     go_wp2_with fail
     go_ret
     exact ⟨by simp,rfl⟩
   · have i1:(1:Int)≤(n:Int):=by omega
     have i2:¬(n:Int)≤256:=by omega
     have d1:decide (1≤n∧n≤256)=false:=decide_eq_false fun h=>h2 h.2
     rw [d1]
     clear h1 h2 d1
     go_enter Tryz.func13,Tryz.ntmps13
     go_wp2_with fail
     go_ret
     exact ⟨by simp,rfl⟩
 · have i1:¬(1:Int)≤(n:Int):=by omega
   have d1:decide (1≤n∧n≤256)=false:=decide_eq_false fun h=>h1 h.1
   rw [d1]
   clear h1 d1
   go_enter Tryz.func13,Tryz.ntmps13
   go_wp2_with fail
   go_ret
   exact ⟨by simp,rfl⟩
section
variable {B g:Nat} {w:World} {S:List Sec} {s:Nat→Nat} {tv fv ov yv lv:Value}
theorem bys_lt {w:World} {B n:Nat} {A:Option Addr} {V:Nat→Nat} (h:Bys w B A n V):∀k,k < n→V k < 256:=fun k hk=>by
 obtain ⟨_,_,_,_,h4⟩:=h k hk
 exact h4
theorem ixRange_yes (hl:Lies w g 74 [tv,fv,ov,yv,lv]) (hp:IxPs B w S s tv fv ov yv lv) (A:Option Addr) (n c:Nat) (V:Nat→Nat) (hq:RightQ n) (hA:A=none→n=0∧c=0) (ho:Bys w w.heap.size A n V):Calls Tryz.prog 21 #[.pointer (some ⟨g,0,none⟩),.slice A n c] w fun e w'=>e=.returned (.tuple #[.int .i64 (((rgS S n V s).1:Nat):Int),.int .i64 (((rgS S n V s).2:Nat):Int)])∧Below w.heap.size w w':=by
 have hR:=ixRight_any A n c w (by have:=hq.2;unfold maxLen;omega)
 have d1:decide (1≤n∧n≤256)=true:=decide_eq_true hq
 rw [d1] at hR
 have HR:=Lib.hid hR
 have c0:w.cell? ⟨g,0,none⟩=some tv:=hl.cell 0
 have c1:w.cell? ⟨g,1,none⟩=some fv:=hl.cell 1
 have lg:=hl.lt
 obtain ⟨gt,X,cx,y,cy,T,rfl,ht⟩:=hp.text
 have hbd:=below_drew' (Below.refl w.heap.size w)
 have HP:=Lib.hid (qPattern (ht.keep hbd) hp.fit A n c hq.2 hA (ho.below hbd) (bys_lt ho))
 have HF:Hid (∀w',Below w.heap.size w w'→∀A' c',ItsR w' A' n c' (patI S.length V)→Calls Tryz.prog 41 #[fv,.slice A' n c'] w' fun e w'=>e=.returned (.tuple #[.int .i64 (((rgS S n V s).1:Nat):Int),.int .i64 (((rgS S n V s).2:Nat):Int)])∧Below w.heap.size w w'):=Lib.hid fun w' hb A' c' hi=>(qRange (hp.find.keepB hb.size fun k _ hk=>hb.block k hk) A' n c' hi).mono fun e w'' ⟨h1,h2⟩=>⟨h1,hb.trans (h2.mono hb.size)⟩
 generalize rgS S n V s=r at HF ⊢
 obtain ⟨a,b⟩:=r
 have HB0:=Lib.hid hbd
 clear d1 hR hl hp ht hq hA ho hbd
 go_enter Tryz.func21,Tryz.ntmps21
 go_wp2_with (go_at_call 13;(with_reducible refine HR.out.mono ?_);rintro e w' ⟨rfl,rfl⟩)
 go_region_held3 (fun w'=>(w'.cell? ⟨g,0,none⟩=some (.pointer (some ⟨gt,0,none⟩))∧w'.cell? ⟨g,1,none⟩=some fv)∧Below w.heap.size w w')
  ((first
    | exact ⟨⟨c0,c1⟩,HB0.out⟩
    | exact ⟨⟨(hC1.cell (p:=⟨g,0,none⟩) lg).trans c0,(hC1.cell (p:=⟨g,1,none⟩) lg).trans c1⟩,hC1⟩
    | exact ⟨⟨(hC2.cell (p:=⟨g,0,none⟩) lg).trans c0,(hC2.cell (p:=⟨g,1,none⟩) lg).trans c1⟩,hC2⟩))
  (first
    | (go_at_call 39;(with_reducible refine HP.out.mono ?_);rintro e1 x1 ⟨⟨A1,k1,rfl,hi1⟩,hc1⟩;have hC1:=HB0.out.trans (hc1.mono HB0.out.size);have HF1:=HF.out _ hC1 _ _ hi1)
    | (go_at_call 41;(with_reducible refine HF1.mono ?_);rintro e1 x2 ⟨rfl,hC2⟩))
 all_goals
  go_wp2_with fail
  go_ret2
  exact ⟨rfl,hC2⟩
theorem ixRange_no (pa:Addr) (A:Option Addr) (n c:Nat) (hn:n≤maxLen) (hq:¬RightQ n):Calls Tryz.prog 21 #[.pointer (some pa),.slice A n c] w fun e w'=>e=.returned (.tuple #[.int .i64 0,.int .i64 0])∧w=w':=by
 have hR:=ixRight_any A n c w hn
 have d1:decide (1≤n∧n≤256)=false:=decide_eq_false hq
 rw [d1] at hR
 have HR:=Lib.hid hR
 clear d1 hR hq
 go_enter Tryz.func21,Tryz.ntmps21
 go_wp2_with (go_at_call 13;(with_reducible refine HR.out.mono ?_);rintro e w' ⟨rfl,rfl⟩)
 go_ret2
 exact ⟨rfl,rfl⟩
theorem ixCheck_any (pa:Addr) (A:Option Addr) (n c:Nat) (hn:n≤maxLen) (r:Bool) (hr:decide (1≤n∧n≤256)=r):Calls Tryz.prog 33 #[.pointer (some pa),.slice A n c] w fun e w'=>e=.returned (.int .i64 (if r then 0 else 210))∧w=w':=by
 have hR:=ixRight_any A n c w hn
 rw [hr] at hR
 have HR:=Lib.hid hR
 clear hR hr
 cases r
 all_goals
  go_enter Tryz.func33,Tryz.ntmps33
  go_wp2_with (go_at_call 13;(with_reducible refine HR.out.mono ?_);rintro e w' ⟨rfl,rfl⟩)
  go_ret
  exact ⟨rfl,rfl⟩
theorem ixCount_yes (hl:Lies w g 74 [tv,fv,ov,yv,lv]) (hp:IxPs B w S s tv fv ov yv lv) (A:Option Addr) (n c:Nat) (V:Nat→Nat) (hq:RightQ n) (hA:A=none→n=0∧c=0) (ho:Bys w w.heap.size A n V):Calls Tryz.prog 11 #[.pointer (some ⟨g,0,none⟩),.slice A n c] w fun e w'=>e=.returned (.tuple #[.agg #[.int .i64 (((prW S n V S.length).length:Nat):Int),.int .i64 ((tmW S n V S.length:Nat):Int)],.int .i64 0])∧Below w.heap.size w w':=by
 have hV:=bys_lt ho
 have hmany:=many_rgS hp.sa hp.fit.2 hV hq.1
 have hrl:=rgS_le S n V s
 have hfl:=hp.fit.len
 have hb0:Below w.heap.size w (w.alloc (.cells #[.int .i64 0,.int .i64 0] 31)):=(Below.refl _ _).alloc (Nat.le_refl _) _
 have hkp:∀w',Below w.heap.size w w'→IxPs B w' S s tv fv ov yv lv:=fun w' hb=>hp.keepB hb.size fun k _ hk=>hb.block k hk
 have hC:=ixCheck_any (w:=w.alloc (.cells #[.int .i64 0,.int .i64 0] 31)) ⟨g,0,none⟩ A n c (by have:=hq.2;unfold maxLen;omega) true (decide_eq_true hq)
 rw [if_pos rfl] at hC
 have HC:=Lib.hid hC
 have HR:=Lib.hid (ixRange_yes (hl.below hb0 hl.lt) (hkp _ hb0) A n c V hq hA ((ho.below hb0).mono_ hb0.size))
 have HD:Hid (∀w',Below w.heap.size w w'→Calls Tryz.prog 34 #[yv,.int .i64 (((rgS S n V s).1:Nat):Int),.int .i64 (((rgS S n V s).2:Nat):Int)] w' fun e w''=>e=.returned (.int .i64 (((prW S n V S.length).length:Nat):Int))∧Below w'.heap.size w' w''):=Lib.hid fun w' hb=>qDocs hp.fit hp.sa (hkp w' hb).tally hq.1 hV
 have HL0:=Lib.hid (lies_new w 31 [.int .i64 0,.int .i64 0])
 have HB0:=Lib.hid hb0
 have c3:w.cell? ⟨g,3,none⟩=some yv:=hl.cell 3
 have lg:=hl.lt
 generalize (prW S n V S.length).length=d at HD ⊢
 generalize tmW S n V S.length=t at hmany ⊢
 generalize rgS S n V s=r at HD HR hmany hrl
 obtain ⟨a,b⟩:=r
 dsimp only at HD HR hmany hrl
 have hsub:IntKind.i64.wrap ((b:Int) - (a:Int))=(t:Int):=by rw [IntWalk.i64_in _ (by omega)];omega
 obtain ⟨b0,hb⟩:∃b0,w.heap.size=b0:=⟨_,rfl⟩
 rw [hb] at HL0
 have HBb:=Lib.hid hb
 clear hl hp hkp hC hA ho hq hV hb0
 go_enter Tryz.func11,Tryz.ntmps11
 go_wp2_with (first
  | (go_at_call 33;(with_reducible refine HC.out.mono ?_);rintro e1 w1 ⟨rfl,rfl⟩)
  | (go_at_call 21;(with_reducible refine HR.out.mono ?_);rintro e1 w2 ⟨rfl,hb2⟩;have hB2:=HB0.out.trans (hb2.mono HB0.out.size);have k3:w2.cell? ⟨g,3,none⟩=some yv:=(hB2.cell (p:=⟨g,3,none⟩) lg).trans c3;have HD2:=Lib.hid (HD.out w2 hB2);have HL2:=Lib.hid (HL0.out.below hb2 HL0.out.lt);have HB2:=Lib.hid hB2;clear hb2 hB2)
  | (go_at_call 34;(with_reducible refine HD2.out.mono ?_);rintro e1 w3 ⟨rfl,hb3⟩;have HL3:=Lib.hid (HL2.out.below hb3 HL2.out.lt);have HB3:=Lib.hid (HB2.out.trans (hb3.mono HB2.out.size));have z0:w3.cell? ⟨b0,0,none⟩=some (.int .i64 0):=HL3.out.cell 0;have z1:w3.cell? ⟨b0,1,none⟩=some (.int .i64 0):=HL3.out.cell 1;have f0:=HL3.out.free 0;have f1:=HL3.out.free 1;clear hb3))
 have hz:=(HL3.out.put 0 (.int .i64 (d:Int))).put 1 (.int .i64 (t:Int))
 have y0:((w3.setCell ⟨b0,0,none⟩ (.int .i64 (d:Int))).setCell ⟨b0,1,none⟩ (.int .i64 (t:Int))).cell? ⟨b0,0,none⟩=some (.int .i64 (d:Int)):=hz.cell 0
 have y1:((w3.setCell ⟨b0,0,none⟩ (.int .i64 (d:Int))).setCell ⟨b0,1,none⟩ (.int .i64 (t:Int))).cell? ⟨b0,1,none⟩=some (.int .i64 (t:Int)):=hz.cell 1
 refine bodyPost_ret (v:=.tuple #[.agg #[.int .i64 (d:Int),.int .i64 (t:Int)],.int .i64 0]) (by simp [results,Tryz.results11,go_sem,y0,y1]) rfl ?_
 have hbb:=HBb.out
 exact ⟨rfl,(HB3.out.setCell (p:=⟨b0,0,none⟩) (show w.heap.size≤b0 by omega) _).setCell (p:=⟨b0,1,none⟩) (show w.heap.size≤b0 by omega) _⟩
theorem ixCount_no (pa:Addr) (A:Option Addr) (n c:Nat) (hn:n≤maxLen) (hq:¬RightQ n):Calls Tryz.prog 11 #[.pointer (some pa),.slice A n c] w fun e w'=>e=.returned (.tuple #[.agg #[.int .i64 0,.int .i64 0],.int .i64 210])∧Below w.heap.size w w':=by
 have hC:=ixCheck_any (w:=w.alloc (.cells #[.int .i64 0,.int .i64 0] 31)) pa A n c hn false (decide_eq_false hq)
 rw [if_neg (by decide)] at hC
 have HC:=Lib.hid hC
 have HL0:=Lib.hid (lies_new w 31 [.int .i64 0,.int .i64 0])
 have HB0:=Lib.hid ((Below.refl w.heap.size w).alloc (Nat.le_refl _) (.cells #[.int .i64 0,.int .i64 0] 31))
 clear hC hq
 go_enter Tryz.func11,Tryz.ntmps11
 go_wp2_with (go_at_call 33;(with_reducible refine HC.out.mono ?_);rintro e1 w1 ⟨rfl,rfl⟩)
 refine bodyPost_ret (v:=.tuple #[.agg #[.int .i64 0,.int .i64 0],.int .i64 210]) (by simp [results,Tryz.results11,go_sem]) rfl ?_
 exact ⟨rfl,HB0.out⟩
theorem ixList_any (hl:Lies w g 74 [tv,fv,ov,yv,lv]) (hp:IxPs B w S s tv fv ov yv lv) (A:Option Addr) (n c:Nat) (V:Nat→Nat) (hn:n≤maxLen) (hA:A=none→n=0∧c=0) (ho:Bys w w.heap.size A n V):Calls Tryz.prog 12 #[.pointer (some ⟨g,0,none⟩),.slice A n c] w fun e w'=>
    (RightQ n→∃(A':Option Addr) (c':Nat),e=.returned (.tuple #[.slice A' (dcW S n V S.length).length c',.int .i64 0])∧ItsR w' A' (dcW S n V S.length).length c' (lstI (dcW S n V S.length)))∧
    (¬RightQ n→∃(A':Option Addr) (c':Nat),e=.returned (.tuple #[.slice A' 0 c',.int .i64 210]))∧Below w.heap.size w w':=by
 by_cases hq:RightQ n
 · have hV:=bys_lt ho
   have hkp:∀w',Below w.heap.size w w'→IxPs B w' S s tv fv ov yv lv:=fun w' hb=>hp.keepB hb.size fun k _ hk=>hb.block k hk
   have hC:=ixCheck_any (w:=w) ⟨g,0,none⟩ A n c hn true (decide_eq_true hq)
   rw [if_pos rfl] at hC
   have HC:=Lib.hid hC
   have HR:=Lib.hid (ixRange_yes hl hp A n c V hq hA ho)
   have HD:Hid (∀w',Below w.heap.size w w'→Calls Tryz.prog 35 #[lv,.int .i64 (((rgS S n V s).1:Nat):Int),.int .i64 (((rgS S n V s).2:Nat):Int)] w' fun e w''=>(∃(A':Option Addr) (c':Nat),e=.returned (.slice A' (dcW S n V S.length).length c')∧ItsR w'' A' (dcW S n V S.length).length c' (lstI (dcW S n V S.length)))∧Below w'.heap.size w' w''):=Lib.hid fun w' hb=>qList hp.fit hp.sa (hkp w' hb).list hV
   have c4:w.cell? ⟨g,4,none⟩=some lv:=hl.cell 4
   have lg:=hl.lt
   have HQ:=Lib.hid hq
   generalize dcW S n V S.length=D at HD ⊢
   generalize rgS S n V s=r at HD HR
   obtain ⟨a,b⟩:=r
   dsimp only at HD HR
   clear hl hp hkp hC hA ho hV hq
   go_enter Tryz.func12,Tryz.ntmps12
   go_wp2_with (first
    | (go_at_call 33;(with_reducible refine HC.out.mono ?_);rintro e1 w1 ⟨rfl,rfl⟩)
    | (go_at_call 21;(with_reducible refine HR.out.mono ?_);rintro e1 w2 ⟨rfl,hb2⟩;have k4:w2.cell? ⟨g,4,none⟩=some lv:=(hb2.cell (p:=⟨g,4,none⟩) lg).trans c4;have HD2:=Lib.hid (HD.out w2 hb2);have HB2:=Lib.hid hb2;clear hb2)
    | (go_at_call 35;(with_reducible refine HD2.out.mono ?_);rintro e1 w3 ⟨⟨A3,c3,rfl,hi3⟩,hb3⟩;have HI3:=Lib.hid hi3;have HB3:=Lib.hid (HB2.out.trans (hb3.mono HB2.out.size));clear hi3 hb3))
   go_ret2
   exact ⟨fun _=>⟨A3,c3,rfl,HI3.out⟩,fun h=>absurd HQ.out h,HB3.out⟩
 · have hC:=ixCheck_any (w:=w) ⟨g,0,none⟩ A n c hn false (decide_eq_false hq)
   rw [if_neg (by decide)] at hC
   have HC:=Lib.hid hC
   have HQ:=Lib.hid hq
   clear hC hq hl hp ho
   go_enter Tryz.func12,Tryz.ntmps12
   go_wp2_with (go_at_call 33;(with_reducible refine HC.out.mono ?_);rintro e1 w1 ⟨rfl,rfl⟩)
   go_ret2
   exact ⟨fun h=>absurd h HQ.out,fun _=>⟨none,0,rfl⟩,Below.refl _ _⟩
theorem ixTop_any (hl:Lies w g 74 [tv,fv,ov,yv,lv]) (hp:IxPs B w S s tv fv ov yv lv) (A:Option Addr) (n c:Nat) (V:Nat→Nat) (K:Int) (hn:n≤maxLen) (hA:A=none→n=0∧c=0) (ho:Bys w w.heap.size A n V):Calls Tryz.prog 17 #[.pointer (some ⟨g,0,none⟩),.slice A n c,.int .i64 K] w fun e w'=>
    (RightQ n∧1≤K→∃(A':Option Addr) (c':Nat) (R T:List (Int×Nat)),e=.returned (.tuple #[.slice A' T.length c',.int .i64 0])∧(T.length≤c'∧c'≤maxLen)∧RkOf (prW S n V S.length) R∧T=R.take K.toNat∧PrsR w' A' T)∧
    (¬(RightQ n∧1≤K)→∃(A':Option Addr) (c':Nat),e=.returned (.tuple #[.slice A' 0 c',.int .i64 210]))∧Below w.heap.size w w':=by
 by_cases hq:RightQ n
 · have hC:=ixCheck_any (w:=w) ⟨g,0,none⟩ A n c hn true (decide_eq_true hq)
   rw [if_pos rfl] at hC
   have HC:=Lib.hid hC
   by_cases hK:K < 1
   · have HQ:Hid (¬(RightQ n∧1≤K)):=Lib.hid fun h=>by omega
     clear hC hq hl hp ho
     go_enter Tryz.func17,Tryz.ntmps17
     go_wp2_with (go_at_call 33;(with_reducible refine HC.out.mono ?_);rintro e1 w1 ⟨rfl,rfl⟩)
     go_ret2
     exact ⟨fun h=>absurd h HQ.out,fun _=>⟨none,0,rfl⟩,Below.refl _ _⟩
   · have HQ:Hid (RightQ n∧1≤K):=Lib.hid ⟨hq,by omega⟩
     have hV:=bys_lt ho
     have hkp:∀w',Below w.heap.size w w'→IxPs B w' S s tv fv ov yv lv:=fun w' hb=>hp.keepB hb.size fun k _ hk=>hb.block k hk
     have HR:=Lib.hid (ixRange_yes hl hp A n c V hq hA ho)
     obtain ⟨gm,glm,clm,hov,_⟩:=hp.own
     have HD:Hid (∀w',Below w.heap.size w w'→Calls Tryz.prog 37 #[.pointer (some ⟨gm,0,none⟩),.int .i64 (((rgS S n V s).1:Nat):Int),.int .i64 (((rgS S n V s).2:Nat):Int),.int .i64 K] w' fun e w''=>(∃(A':Option Addr) (c':Nat) (R T:List (Int×Nat)),e=.returned (.slice A' T.length c')∧(T.length≤c'∧c'≤maxLen)∧RkOf (prW S n V S.length) R∧T=R.take K.toNat∧PrsR w'' A' T)∧Below w'.heap.size w' w''):=Lib.hid fun w' hb=>by
      obtain ⟨gm',gl',cl',h1,h2⟩:=(hkp w' hb).own
      rw [hov] at h1
      cases h1
      exact qTop hp.fit hp.sa h2 hV K
     have c2:w.cell? ⟨g,2,none⟩=some (.pointer (some ⟨gm,0,none⟩)):=hov▸hl.cell 2
     have lg:=hl.lt
     generalize prW S n V S.length=D at HD ⊢
     generalize rgS S n V s=r at HD HR
     obtain ⟨a,b⟩:=r
     dsimp only at HD HR
     clear hl hp hkp hC hA ho hV hq hov
     go_enter Tryz.func17,Tryz.ntmps17
     go_wp2_with (first
      | (go_at_call 33;(with_reducible refine HC.out.mono ?_);rintro e1 w1 ⟨rfl,rfl⟩)
      | (go_at_call 21;(with_reducible refine HR.out.mono ?_);rintro e1 w2 ⟨rfl,hb2⟩;have k2:w2.cell? ⟨g,2,none⟩=some (.pointer (some ⟨gm,0,none⟩)):=(hb2.cell (p:=⟨g,2,none⟩) lg).trans c2;have HD2:=Lib.hid (HD.out w2 hb2);have HB2:=Lib.hid hb2;clear hb2)
      | (go_at_call 37;(with_reducible refine HD2.out.mono ?_);rintro e1 w3 ⟨⟨A3,c3,R3,T3,rfl,q1,q2,q3,q4⟩,hb3⟩;have HI3:=Lib.hid (show (T3.length≤c3∧c3≤maxLen)∧RkOf D R3∧T3=R3.take K.toNat∧PrsR w3 A3 T3 from ⟨q1,q2,q3,q4⟩);have HB3:=Lib.hid (HB2.out.trans (hb3.mono HB2.out.size));clear q1 q2 q3 q4 hb3))
     go_ret2
     exact ⟨fun _=>⟨A3,c3,R3,T3,rfl,HI3.out.1,HI3.out.2.1,HI3.out.2.2.1,HI3.out.2.2.2⟩,fun h=>absurd HQ.out h,HB3.out⟩
 · have hC:=ixCheck_any (w:=w) ⟨g,0,none⟩ A n c hn false (decide_eq_false hq)
   rw [if_neg (by decide)] at hC
   have HC:=Lib.hid hC
   have HQ:Hid (¬(RightQ n∧1≤K)):=Lib.hid fun h=>hq h.1
   clear hC hq hl hp ho
   go_enter Tryz.func17,Tryz.ntmps17
   go_wp2_with (go_at_call 33;(with_reducible refine HC.out.mono ?_);rintro e1 w1 ⟨rfl,rfl⟩)
   go_ret2
   exact ⟨fun h=>absurd h HQ.out,fun _=>⟨none,0,rfl⟩,Below.refl _ _⟩
theorem plsF_nat {V:Nat→Int} {n:Nat} {P:Nat→Int} {m:Nat}:∀k,∀q∈plsF V n P m k,∃j:Nat,j < k∧q=(j:Int)
 | 0,q,h=>by cases h
 | k+1,q,h=>by
   by_cases g:0 < m∧stB V n P m k=true
   · rw [plsF_hit g,List.mem_append,List.mem_singleton] at h
     rcases h with h | h
     · obtain ⟨j,h1,h2⟩:=plsF_nat k q h
       exact ⟨j,by omega,h2⟩
     · exact ⟨k,Nat.lt_succ_self k,h⟩
   · rw [plsF_miss g] at h
     obtain ⟨j,h1,h2⟩:=plsF_nat k q h
     exact ⟨j,by omega,h2⟩
theorem plc_nat {S:List Sec} {p:Nat} (hp:p < lenT S):docI S (p:Int)=((plcS S (p:Int)).1,(((plcS S (p:Int)).2:Nat):Int)):=by
 obtain ⟨d,o,x,h1,h2,rfl⟩:=locT_some hp
 rw [plcS_at h1 h2,docI_here h1 h2]
theorem plc_get {m:Nat} {V:Nat→Nat} (hf:FitX S) (hV:∀k,k < m→V k < 256) (hm:0 < m):(plW S m V S.length).length=(plsF (symI S) (lenT S) (patI S.length V) m (lenT S)).length∧∀j,j < (plW S m V S.length).length→∃q:Nat,q < lenT S∧lstI (plsF (symI S) (lenT S) (patI S.length V) m (lenT S)) j=(q:Int)∧(plW S m V S.length)[j]?=some (plcS S (q:Int)):=by
 have h:=plsF_docs hf.2 hV hm S.length (Nat.le_refl _)
 have h:(plsF (symI S) (lenT S) (patI S.length V) m (lenT S)).map (plcS S)=plW S m V S.length:=h
 rw [←h]
 refine ⟨List.length_map _,fun j hj=>?_⟩
 rw [List.length_map] at hj
 obtain ⟨q,h1,h2⟩:=plsF_nat (lenT S) _ (List.getElem_mem hj)
 refine ⟨q,h1,?_,?_⟩
 · unfold lstI
   rw [List.getD_eq_getElem?_getD,List.getElem?_eq_getElem hj,h2]
   rfl
 · rw [List.getElem?_map,List.getElem?_eq_getElem hj,h2]
   rfl
theorem plW_small {m:Nat} {V:Nat→Nat} (hf:FitX S) (hV:∀k,k < m→V k < 256) (hm:0 < m):(plW S m V S.length).length≤65792∧∀d∈plW S m V S.length,d.2≤4194304:=by
 obtain ⟨h1,h2⟩:=plc_get hf hV hm
 have hl:=hf.len
 refine ⟨by rw [h1];have:=plsF_len (symI S) (lenT S) (patI S.length V) m (lenT S);omega,fun d hd=>?_⟩
 obtain ⟨j,hj⟩:=List.getElem?_of_mem hd
 obtain ⟨q,h3,_,h4⟩:=h2 j (List.getElem?_eq_some_iff.1 hj).1
 rw [hj] at h4
 injection h4 with h4
 obtain ⟨d',o,x,k1,k2,rfl⟩:=locT_some h3
 rw [plcS_at k1 k2] at h4
 have:=offT_in k1
 rw [h4]
 show o≤4194304
 omega
theorem plcR_own {w:World} {B:Nat} {v:Value} {D:List (Int×Nat)} (h:w.ownsRow B 62 2 v D.length (prcells D)) (hl:D.length≤4194304) (hm:∀d∈D,d.2≤4194304):∃A c,v=.slice A D.length c∧PrsR w A D:=by
 rcases owns_slice2 h with ⟨h0,e⟩ | ⟨g,c,e,_,hg⟩
 · have:D=[]:=List.length_eq_zero_iff.1 h0
   subst this
   exact ⟨none,0,e,hl,fun i d hd=>by cases hd⟩
 · subst e
   refine ⟨_,c,rfl,hl,fun i d hd=>⟨g,0,rfl,hg,?_,?_,hm d (List.mem_of_getElem? hd)⟩⟩
   · have h2:=h.cells rfl (i*2) _ (prcells_at hd).1
     rw [Addr.add_mid,Nat.zero_add] at h2
     rw [Nat.zero_add]
     exact h2
   · have h2:=h.cells rfl (i*2+1) _ (prcells_at hd).2
     rw [Addr.add_mid,Nat.zero_add] at h2
     rw [Nat.zero_add]
     exact h2
def rowE (D:List (Int×Nat)) (k:Nat):List (Int×Nat):=D.take k++List.replicate (D.length - k) (0,0)
theorem rowE_at {D:List (Int×Nat)} {k:Nat} (hk:k < D.length):(rowE D k)[k]?=some (0,0):=by
 unfold rowE
 rw [List.getElem?_append_right (by rw [List.length_take];omega),List.length_take,Nat.min_eq_left (Nat.le_of_lt hk),Nat.sub_self,List.getElem?_replicate,if_pos (by omega)]
theorem rowE_set {D:List (Int×Nat)} {k:Nat} {x:Int×Nat} (hk:D[k]?=some x):(rowE D k).set k x=rowE D (k+1):=by
 have hlt:=(List.getElem?_eq_some_iff.1 hk).1
 unfold rowE
 have e1:(D.take k).length=k:=by rw [List.length_take];omega
 rw [List.set_append_right _ _ (by omega),e1,Nat.sub_self,List.take_add_one,hk,List.append_assoc]
 obtain ⟨m,hm⟩:∃m,D.length - k=m+1:=⟨D.length - k - 1,by omega⟩
 have hm2:D.length - (k+1)=m:=by omega
 rw [hm,hm2,List.replicate_succ]
 rfl
theorem rowE_zero (D:List (Int×Nat)):rowE D 0=List.replicate D.length (0,0):=by
 unfold rowE
 rw [List.take_zero,List.nil_append,Nat.sub_zero]
theorem rowE_all (D:List (Int×Nat)):rowE D D.length=D:=by
 unfold rowE
 rw [List.take_length,Nat.sub_self,List.replicate_zero,List.append_nil]
theorem prcells_none:∀n:Nat,prcells (List.replicate n (0,0))=List.replicate (n*2) (.int .i64 0)
 | 0=>rfl
 | n+1=>by
   have e:prcells (List.replicate (n+1) (0,0))=.int .i64 0::.int .i64 0::prcells (List.replicate n (0,0)):=by
    rw [List.replicate_succ]
    rfl
   rw [e,prcells_none n,Nat.add_mul,Nat.one_mul,List.replicate_succ,List.replicate_succ]
theorem zero_places (n:Nat):madeCells (Value.agg #[.int .i64 0,.int .i64 0]).cells (n*2)=(prcells (List.replicate n (0,0))).toArray:=by
 rw [prcells_none]
 apply Array.ext
 · simp [madeCells]
 · intro i h1 h2
   rcases Nat.mod_two_eq_zero_or_one i with h | h <;> simp [madeCells,Value.cells,h]
theorem make_places0 (w:World) (n:Nat) (hn:n≤4194304):(Instr.makeSlice 48 (.int .i64 (n:Int)) (.int .i64 (n:Int))).run Tryz.prog w=.ok (.slice (some ⟨w.heap.size,0,none⟩) n n) (w.alloc (.cells (prcells (List.replicate n (0,0))).toArray 62)):=by
 obtain ⟨i0,hi0,hz0,hs0,hb0⟩:=info_parts info_place
 have h:=run_make (P:=Tryz.prog) w 48 62 i0 _ Tryz.underlying48 hi0 hz0 .i64 .i64 (n:Int) (n:Int) (by omega) (Int.le_refl _) (by rw [hb0];omega) (by omega)
 rw [hs0,Int.toNat_natCast,zero_places] at h
 exact h
theorem owns_lies2 {w:World} {B g n:Nat} {t:TypeId} {cs:List Value} (h:Lies w g t cs) (hB:B≤g) (hn:cs.length=n*2) (hm:n≤maxLen):w.ownsRow B t 2 (.slice (some ⟨g,0,none⟩) n n) n cs:=
 ⟨by omega,.inr ⟨g,n,cs.toArray,rfl,hB,h,Nat.le_refl _,hm,by simp [hn],by simp [←hn]⟩⟩
theorem ixPlaces_any (hl:Lies w g 74 [tv,fv,ov,yv,lv]) (hp:IxPs B w S s tv fv ov yv lv) (A:Option Addr) (n c:Nat) (V:Nat→Nat) (hn:n≤maxLen) (hA:A=none→n=0∧c=0) (ho:Bys w w.heap.size A n V):Calls Tryz.prog 20 #[.pointer (some ⟨g,0,none⟩),.slice A n c] w fun e w'=>
    (RightQ n→∃(A':Option Addr) (c':Nat),e=.returned (.tuple #[.slice A' (plW S n V S.length).length c',.int .i64 0])∧PrsR w' A' (plW S n V S.length))∧
    (¬RightQ n→∃(A':Option Addr) (c':Nat),e=.returned (.tuple #[.slice A' 0 c',.int .i64 210]))∧Below w.heap.size w w':=by
 by_cases hq:RightQ n
 · have hV:=bys_lt ho
   have hC:=ixCheck_any (w:=w) ⟨g,0,none⟩ A n c hn true (decide_eq_true hq)
   rw [if_pos rfl] at hC
   have HC:=Lib.hid hC
   have c0:w.cell? ⟨g,0,none⟩=some tv:=hl.cell 0
   have c1:w.cell? ⟨g,1,none⟩=some fv:=hl.cell 1
   have lg:=hl.lt
   obtain ⟨gt,X,cx,y,cy,T,rfl,ht⟩:=hp.text
   have hbd:=below_drew' (Below.refl w.heap.size w)
   have HP:=Lib.hid (qPattern (ht.keep hbd) hp.fit A n c hq.2 hA (ho.below hbd) hV)
   obtain ⟨hlen,hget⟩:=plc_get hp.fit hV hq.1
   have HSm:=Lib.hid (plW_small hp.fit hV hq.1)
   have hsm:=HSm.out.1
   have HF:Hid (∀w',Below w.heap.size w w'→∀A' c',ItsR w' A' n c' (patI S.length V)→Calls Tryz.prog 38 #[fv,.slice A' n c'] w' fun e w'=>(∃(A2:Option Addr) (c2:Nat),e=.returned (.slice A2 (plW S n V S.length).length c2)∧ItsR w' A2 (plW S n V S.length).length c2 (lstI (plsF (symI S) (lenT S) (patI S.length V) n (lenT S))))∧Below w.heap.size w w'):=Lib.hid fun w' hb A' c' hi=>(qPlaces (hp.find.keepB hb.size fun k _ hk=>hb.block k hk) A' n c' hi).mono fun e w'' ⟨h1,h2⟩=>⟨by rw [hlen];exact h1,hb.trans (h2.mono hb.size)⟩
   have HDc:Hid (∀w',Below w.heap.size w w'→∀q:Nat,q < lenT S→Calls Tryz.prog 40 #[.pointer (some ⟨gt,0,none⟩),.int .i64 (q:Int)] w' fun e w''=>e=.returned (.tuple #[.int .i64 (plcS S (q:Int)).1,.int .i64 (((plcS S (q:Int)).2:Nat):Int)])∧Below w'.heap.size w' w''):=Lib.hid fun w' hb q hq=>by
    have h:=tdoc_any (ht.keep hb) (q:Int) (wf_i64 (by omega) (by have:=hp.fit.len;omega))
    rw [plc_nat hq] at h
    exact h
   have HG:=Lib.hid hget
   generalize hD:plW S n V S.length=D at HSm HF HG hsm ⊢
   have HB0:=Lib.hid hbd
   have HQ:=Lib.hid hq
   have hfl:=hp.fit.len
   clear hl hp ht hC hA ho hV hq hbd hlen hget hD
   go_enter Tryz.func20,Tryz.ntmps20
   go_wp2_with (go_at_call 33;(with_reducible refine HC.out.mono ?_);rintro e1 w1 ⟨rfl,rfl⟩)
   go_upto_region 4 with (fail)
   go_cut [7] (fun s7 wx=>∃(A2:Option Addr) (c2:Nat),s7=.slice A2 D.length c2∧Hid (ItsR wx A2 D.length c2 (lstI (plsF (symI S) (lenT S) (patI S.length V) n (lenT S))))∧Hid (Below w.heap.size w wx))
   case first=>
    go_region_held3 (fun w'=>(w'.cell? ⟨g,0,none⟩=some (.pointer (some ⟨gt,0,none⟩))∧w'.cell? ⟨g,1,none⟩=some fv)∧Below w.heap.size w w')
     ((first
       | exact ⟨⟨c0,c1⟩,HB0.out⟩
       | exact ⟨⟨(hC1.cell (p:=⟨g,0,none⟩) lg).trans c0,(hC1.cell (p:=⟨g,1,none⟩) lg).trans c1⟩,hC1⟩
       | exact ⟨⟨(hC2.cell (p:=⟨g,0,none⟩) lg).trans c0,(hC2.cell (p:=⟨g,1,none⟩) lg).trans c1⟩,hC2⟩))
     (first
       | (go_at_call 39;(with_reducible refine HP.out.mono ?_);rintro e1 x1 ⟨⟨A1,k1,rfl,hi1⟩,hc1⟩;have hC1:=HB0.out.trans (hc1.mono HB0.out.size);have HF1:=Lib.hid (HF.out _ hC1 _ _ hi1))
       | (go_at_call 38;(with_reducible refine HF1.out.mono ?_);rintro e1 x2 ⟨⟨A2,k2,rfl,hi2⟩,hC2⟩))
    all_goals
     go_wp2_with fail
     go_meet
     exact ⟨A2,k2,rfl,Lib.hid hi2,Lib.hid hC2⟩
   case rest=>
    obtain ⟨A2,c2,rfl,HI2,HB2⟩:=hcut
    rename World=>w2
    obtain ⟨hA2,hc2,hcm2,_⟩:=HI2.out
    have hcm3:c2≤9223372036854775807:=by unfold maxLen at hcm2;omega
    have HO2:=Lib.hid HI2.out.2.2.2
    have hmk:=make_places0 w2 D.length (by omega)
    have hlz:=lies_new w2 62 (prcells (List.replicate D.length (0,0)))
    have HR0:=owns_lies2 hlz (Nat.le_refl _) (by rw [prcells_length,List.length_replicate]) (by unfold maxLen;omega)
    rw [←rowE_zero] at HR0 hmk
    replace HR0:=Lib.hid HR0
    have HB3:=Lib.hid ((Below.refl w2.heap.size w2).alloc (Nat.le_refl _) (.cells (prcells (rowE D 0)).toArray 62))
    obtain ⟨gl,hgl⟩:∃gl,w2.heap.size=gl:=⟨_,rfl⟩
    obtain ⟨w3,hw3⟩:∃w3,w2.alloc (.cells (prcells (rowE D 0)).toArray 62)=w3:=⟨_,rfl⟩
    rw [hw3] at hmk HR0 HB3
    rw [hgl] at hmk HR0
    have HGlw:w2.heap.size≤gl:=Nat.le_of_eq hgl
    replace HGlw:=Lib.hid HGlw
    clear hcm2 HF HP hlz hw3 hgl
    go_wp2_with fail
    go_loopw [33] (fun v wr=>∃k:Nat,k≤D.length∧v=.int .i64 (k:Int)∧Hid (wr.ownsRow gl 62 2 (.slice (some ⟨gl,0,none⟩) D.length D.length) D.length (prcells (rowE D k)))∧Hid (Below w2.heap.size w2 wr)) (fun v _=>D.length - (intOf v).toNat)
    case atStart=>exact ⟨0,Nat.zero_le _,rfl,HR0,HB3⟩
    case round=>
     clear HR0 HB3 hmk
     obtain ⟨k,hk,rfl,hr,hB⟩:=hrel
     have hwB:=HB2.out.trans (hB.out.mono HB2.out.size)
     by_cases hlt:k < D.length
     · have hlti:(k:Int) < (D.length:Int):=by omega
       obtain ⟨q,hq1,hq2,hq3⟩:=HG.out k hlt
       obtain ⟨ad,rfl,had,hcell,_⟩:=HO2.out k hlt
       rw [hq2] at hcell
       have hcell2:wr.cell? (ad.add k)=some (.int .i64 (q:Int)):=(World.cell?_of_block (hB.out.block _ (by unfold Addr.add;split <;> exact had))).trans hcell
       have k0:wr.cell? ⟨g,0,none⟩=some (.pointer (some ⟨gt,0,none⟩)):=(hwB.cell (p:=⟨g,0,none⟩) lg).trans c0
       have HDk:=Lib.hid (HDc.out wr hwB q hq1)
       have i1:IntKind.i64.wrap ((k:Int)+1)=((k+1:Nat):Int):=by rw [IntWalk.i64_in _ (by omega)];omega
       obtain ⟨z,hz⟩:∃z,plcS S (q:Int)=z:=⟨_,rfl⟩
       rw [hz] at HDk hq3
       have HQ3:=Lib.hid hq3
       obtain ⟨x,y⟩:=z
       dsimp only at HDk
       have hszB:=hB.out.size
       clear hz hq1 hq2 hq3 hcell
       go_wp2_with (go_at_call 40;(with_reducible refine HDk.out.mono ?_);rintro e1 w4 ⟨rfl,hb4⟩;have HB4:=Lib.hid (hB.out.trans (hb4.mono hB.out.size));have HR4:=Lib.hid (owns_sameK hr.out (fun j hj=>hb4.block j (hr.out.lt j hj).2));have m0:w4.frozen? ⟨gl,k*2,none⟩=false:=owns_free2 HR4.out _;have m1:w4.frozen? ⟨gl,k*2+1,none⟩=false:=owns_free2 HR4.out _;have n0:w4.cell? ⟨gl,k*2,none⟩=some (.int .i64 0):=(by have h:=HR4.out.cells rfl (k*2) _ (prcells_at (rowE_at hlt)).1;rw [Addr.add_mid,Nat.zero_add] at h;exact h);have n1:w4.cell? ⟨gl,k*2+1,none⟩=some (.int .i64 0):=(by have h:=HR4.out.cells rfl (k*2+1) _ (prcells_at (rowE_at hlt)).2;rw [Addr.add_mid,Nat.zero_add] at h;exact h);clear hb4)
       go_roundw
       case rel=>
        have ho:=owns_put2 (owns_put2 HR4.out (k*2) (.int .i64 x)) (k*2+1) (.int .i64 (y:Int))
        rw [prcells_set2 _ k (x,y),rowE_set HQ3.out] at ho
        exact ⟨k+1,by omega,by go_num,Lib.hid ho,Lib.hid ((HB4.out.setCell (p:=⟨gl,k*2,none⟩) HGlw.out _).setCell (p:=⟨gl,k*2+1,none⟩) HGlw.out _)⟩
       case measure=>simp [intOf];omega
     · obtain rfl:k=D.length:=by omega
       have hge:¬(D.length:Int) < (D.length:Int):=by omega
       have hr4:=hr.out
       rw [rowE_all] at hr4
       obtain ⟨A5,c5,e5,hp5⟩:=plcR_own hr4 (by omega) HSm.out.2
       cases e5
       have HP5:=Lib.hid hp5
       have HW5:=Lib.hid hwB
       clear hr4 hp5 hr hwB
       go_wp2_with fail
       go_ret2
       exact ⟨fun _=>⟨_,⟨_,rfl⟩,HP5.out⟩,fun h=>absurd HQ.out h,HW5.out⟩
 · have hC:=ixCheck_any (w:=w) ⟨g,0,none⟩ A n c hn false (decide_eq_false hq)
   rw [if_neg (by decide)] at hC
   have HC:=Lib.hid hC
   have HQ:=Lib.hid hq
   clear hC hq hl hp ho
   go_enter Tryz.func20,Tryz.ntmps20
   go_wp2_with (go_at_call 33;(with_reducible refine HC.out.mono ?_);rintro e1 w1 ⟨rfl,rfl⟩)
   go_ret2
   exact ⟨fun h=>absurd h HQ.out,fun _=>⟨none,0,rfl⟩,Below.refl _ _⟩
end
theorem owns_lowB {w:World} {B B' n k:Nat} {t:TypeId} {v:Value} {xs:List Value} (h:w.ownsRow B t k v n xs) (hB:B'≤B):w.ownsRow B' t k v n xs:=by
 refine ⟨h.1,?_⟩
 rcases h.2 with h0 | ⟨g,cap,cur,e,h1,h2⟩
 · exact .inl h0
 · exact .inr ⟨g,cap,cur,e,Nat.le_trans hB h1,h2⟩
theorem Fd.lowB {B B' g n al k:Nat} {T:Nat→Int} {s:Nat→Nat} {a:FdA} {w:World} (h:Fd w B g n T s al k a) (hB:B'≤B):Fd w B' g n T s al k a:=
 ⟨h.head,h.row.lowB hB,h.alike,h.below,h.marked.lowB hB,h.places,h.mult,by have:=h.lo;omega,h.once,h.sa,h.most,h.right,h.few,h.step⟩
theorem Tl.lowB {B B' g gv gw n:Nat} {av:Value} {ws:List Nat} {d:Nat→Nat} {w:World} (h:Tl w B g gv gw av ws n d) (hB:B'≤B):Tl w B' g gv gw av ws n d:=⟨h.head,h.vec.lowB hB,Nat.le_trans hB h.lo,h.few⟩
theorem Ls.lowB {B B' g n c gb:Nat} {A:Option Addr} {pr:Addr} {V:Nat→Int} {w:World} (h:Ls w B g A c gb pr n V) (hB:B'≤B):Ls w B' g A c gb pr n V:=
 ⟨h.head,owns_lowB h.da hB,h.back,by
   obtain ⟨Br,h1,h2⟩:=h.rmq
   exact ⟨Br,Nat.le_trans hB h1,h2⟩,by have:=h.lo;omega,h.few,h.room⟩
theorem set_low {w:World} {g b j:Nat} (h:g < b) (u:Value):∀k,b≤k→k < w.heap.size→(w.setCell ⟨g,j,none⟩ u).heap[k]?=w.heap[k]?:=fun k hk _=>Below.heap_setCell w ⟨g,j,none⟩ u k (by show k≠g;omega)
theorem set_size (w:World) (p:Addr) (u:Value):(w.setCell p u).heap.size=w.heap.size:=by simp [World.setCell]
def FrB (b:Nat) (w w':World):Prop:=w.heap.size≤w'.heap.size∧∀k,b≤k→k < w.heap.size→w'.heap[k]?=w.heap[k]?
theorem FrB.trans {b:Nat} {w w1 w2:World} (h:FrB b w w1) (h':FrB b w1 w2):FrB b w w2:=⟨Nat.le_trans h.1 h'.1,fun k h1 h2=>(h'.2 k h1 (Nat.lt_of_lt_of_le h2 h.1)).trans (h.2 k h1 h2)⟩
theorem FrB.call {b:Nat} {w w':World} (h:Below w.heap.size w w'):FrB b w w':=⟨h.size,fun k _ hk=>h.block k hk⟩
theorem FrB.put {b g:Nat} {w:World} (h:g < b) (j:Nat) (u:Value):FrB b w (w.setCell ⟨g,j,none⟩ u):=⟨Nat.le_of_eq (set_size w _ u).symm,set_low h u⟩
theorem FndX.lowB {B B':Nat} {w:World} {v:Value} {S:List Sec} {s:Nat→Nat} (h:FndX B w v S s) (hB:B'≤B):FndX B' w v S s:=by
 rcases h with h | ⟨h0,g,a,h1,h2⟩
 · exact .inl h
 · exact .inr ⟨h0,g,a,h1,h2.lowB hB⟩
theorem TalAt.lowB {B B':Nat} {w:World} {v:Value} {n:Nat} {D L:Nat→Int} (h:TalAt B w v n D L) (hB:B'≤B):TalAt B' w v n D L:=by
 obtain ⟨g,gv,gw,av,ws,h1,h2⟩:=h
 exact ⟨g,gv,gw,av,ws,h1,h2.lowB hB⟩
theorem LisAt.lowB {B B':Nat} {w:World} {v:Value} {n:Nat} {V:Nat→Int} (h:LisAt B w v n V) (hB:B'≤B):LisAt B' w v n V:=by
 obtain ⟨g,A,c,gb,pr,h1,h2⟩:=h
 exact ⟨g,A,c,gb,pr,h1,h2.lowB hB⟩
structure BdIn (w w4 W:World) (gx:Nat) (vs:List Value):Prop where
 b0:Below w.heap.size w W
 b4:Below w4.heap.size w4 W
 lx:Lies W gx 74 vs
 g:gx=w4.heap.size
 g2:w.heap.size≤gx
theorem BdIn.call {w w4 W W':World} {gx:Nat} {vs:List Value} (h:BdIn w w4 W gx vs) (hb:Below W.heap.size W W'):BdIn w w4 W' gx vs:=⟨h.b0.trans (hb.mono h.b0.size),h.b4.trans (hb.mono h.b4.size),h.lx.below hb h.lx.lt,h.g,h.g2⟩
theorem BdIn.put {w w4 W:World} {gx:Nat} {vs:List Value} (h:BdIn w w4 W gx vs) (j:Nat) (u:Value):BdIn w w4 (W.setCell ⟨gx,j,none⟩ u) gx (vs.set j u):=⟨h.b0.setCell (p:=⟨gx,j,none⟩) h.g2 _,h.b4.setCell (p:=⟨gx,j,none⟩) (by show w4.heap.size≤gx;have:=h.g;omega) _,h.lx.put j u,h.g,h.g2⟩
theorem BdIn.its {w w4 W:World} {gx n c j:Nat} {vs:List Value} {A:Option Addr} {V:Nat→Int} {v:Value} (_h:BdIn w w4 W gx vs) (hi:ItsR W A n c V) (hv:W.cell? ⟨gx,j,none⟩=some v) (hn:∀x,v≠.int .i64 x) (u:Value):ItsR (W.setCell ⟨gx,j,none⟩ u) A n c V:=itsR_unlike hi hv hn
section
variable {w w3 W:World} {B gx gt cx y cy:Nat} {S:List Sec} {s:Nat→Nat} {X:Option Addr} {T:List Part} {A2 A3:Option Addr} {c2 c3:Nat}
theorem ixLayFinder_any (hb:BdIn w w3 W gx [.pointer (some ⟨gt,0,none⟩),.pointer none,.pointer none,.pointer none,.pointer none]) (ht:Txt B w3 gt X cx y cy T S) (hf:FitX S) (hs:IsSA (symI S) (lenT S) s) (h2:ItsR w3 A2 (lenT S) c2 (symI S)) (h3:ItsR w3 A3 (lenT S) c3 fun i=>((s i:Nat):Int)):
    Calls Tryz.prog 31 #[.pointer (some ⟨gx,0,none⟩),.slice A2 (lenT S) c2,.slice A3 (lenT S) c3] W fun e w'=>∃pf,e=.returned (.int .i64 0)∧BdIn w w3 w' gx [.pointer (some ⟨gt,0,none⟩),.pointer pf,.pointer none,.pointer none,.pointer none]∧FndX (gx+1) w' (.pointer pf) S s∧FrB (gx+1) W w':=by
 have hfl:=hf.len
 rcases Nat.eq_zero_or_pos (lenT S) with h0 | h0
 · have HB:=Lib.hid hb
   have HZ:=Lib.hid h0
   obtain ⟨N,hN⟩:∃N,lenT S=N:=⟨_,rfl⟩
   rw [hN] at h0
   rw [hN]
   subst h0
   clear h2 h3 hs hf ht hb hfl hN
   go_enter Tryz.func31,Tryz.ntmps31
   go_wp2_with fail
   go_ret
   exact ⟨none,rfl,HB.out,.inl ⟨HZ.out,rfl⟩,Nat.le_refl _,fun _ _ _=>rfl⟩
 · obtain ⟨al,hal⟩:∃al:Nat,S.length+256=al:=⟨_,rfl⟩
   have HAl:Hid (∀W',Below w3.heap.size w3 W'→Calls Tryz.prog 30 #[.pointer (some ⟨gt,0,none⟩)] W' fun e w'=>e=.returned (.int .i64 (al:Int))∧W'=w'):=Lib.hid fun W' hb=>hal▸talphabet_any (ht.keep hb)
   have HAW:=Lib.hid (HAl.out W hb.b4)
   have HFi:=bdFind hf hs h0 A2 c2 A3 c3 (h2.below hb.b4) (h3.below hb.b4)
   rw [hal] at HFi
   replace HFi:=Lib.hid HFi
   have HB:=Lib.hid hb
   have k0:W.cell? ⟨gx,0,none⟩=some (.pointer (some ⟨gt,0,none⟩)):=hb.lx.cell 0
   have hlt:=hb.lx.lt
   have HN:=Lib.hid hfl.2
   obtain ⟨N,hN⟩:∃N,lenT S=N:=⟨_,rfl⟩
   have z1:¬(N:Int)=0:=by omega
   have z2:((N:Int)==0)=false:=by simpa using z1
   rw [hN] at HFi HN h0 ⊢
   have HL:=Lib.hid hlt
   clear h2 h3 hs hf ht hb hfl hal hlt hN HAl
   go_enter Tryz.func31,Tryz.ntmps31
   go_wp2_with (first
    | (go_at_call 30;(with_reducible refine HAW.out.mono ?_);rintro e w' ⟨rfl,rfl⟩)
    | (go_at_call 52;(with_reducible refine HFi.out.mono ?_);rintro e w6 ⟨⟨pf,rfl,hfx⟩,hb6⟩;have HB6:=Lib.hid (HB.out.call hb6);have HFx:=Lib.hid hfx;have HC6:=Lib.hid hb6;have f1:w6.frozen? ⟨gx,1,none⟩=false:=HB6.out.lx.free 1;have k1:w6.cell? ⟨gx,1,none⟩=some (.pointer none):=HB6.out.lx.cell 1;clear hfx hb6))
   go_ret
   have q:=FrB.put (w:=w6) (Nat.lt_succ_self gx) 1 (.pointer pf)
   have hlt:=HL.out
   have hsz:=HC6.out.size
   have q2:=FrB.put (b:=W.heap.size) (w:=w6) hlt 1 (.pointer pf)
   exact ⟨pf,rfl,HB6.out.put 1 (.pointer pf),(HFx.out.keepB q2.1 q2.2).lowB hlt,(FrB.call HC6.out).trans q⟩
def OwnP (b:Nat) (W:World) (S:List Sec) (s:Nat→Nat) (ov yv lv:Value):Prop:=(∃gm gl cl,ov=.pointer (some ⟨gm,0,none⟩)∧Mx W b gm gl cl (lenT S) (owS S s) 255)∧TalAt b W yv (lenT S) (owS S s) (lcpI (symI S) (lenT S) fun i=>((s i:Nat):Int))∧LisAt b W lv (lenT S) (owS S s)
theorem ixLayOwners_any {pf:Option Addr} (hb:BdIn w w3 W gx [.pointer (some ⟨gt,0,none⟩),.pointer pf,.pointer none,.pointer none,.pointer none]) (ht:Txt B w3 gt X cx y cy T S) (hf:FitX S) (hs:IsSA (symI S) (lenT S) s) (h2:ItsR w3 A2 (lenT S) c2 (symI S)) (h3:ItsR w3 A3 (lenT S) c3 fun i=>((s i:Nat):Int)):
    Calls Tryz.prog 32 #[.pointer (some ⟨gx,0,none⟩),.slice A2 (lenT S) c2,.slice A3 (lenT S) c3] W fun e w'=>∃po py pl,e=.returned (.int .i64 0)∧BdIn w w3 w' gx [.pointer (some ⟨gt,0,none⟩),.pointer pf,.pointer po,.pointer py,.pointer pl]∧OwnP (gx+1) w' S s (.pointer po) (.pointer py) (.pointer pl)∧FrB (gx+1) W w':=by
 have HB0:=Lib.hid hb
 have HF:=Lib.hid hf
 have HS:=Lib.hid hs
 have HI2:Hid (∀W vs,BdIn w w3 W gx vs→ItsR W A2 (lenT S) c2 (symI S)∧ItsR W A3 (lenT S) c3 fun i=>((s i:Nat):Int)):=Lib.hid fun W vs h=>⟨h2.below h.b4,h3.below h.b4⟩
 have HDo:=Lib.hid (bdDocs (ht.keep hb.b4) hf hs A3 c3 (HI2.out _ _ hb).2)
 have k0:W.cell? ⟨gx,0,none⟩=some (.pointer (some ⟨gt,0,none⟩)):=hb.lx.cell 0
 have HL0:=Lib.hid hb.lx.lt
 have hpn:∀(p:Option Addr) (x:Int),Value.pointer p≠.int .i64 x:=fun p x h=>by cases h
 clear hb hf hs h2 h3 ht
 go_enter Tryz.func32,Tryz.ntmps32
 go_wp2_with fail
 with_reducible refine HDo.out.mono ?_
 rintro e w4 ⟨⟨A4,c4,rfl,hi4⟩,hb4⟩
 have HB4:=Lib.hid (HB0.out.call hb4)
 have HK4:=Lib.hid hb4
 have HI4:=Lib.hid hi4
 have HWv:=Lib.hid (bdWave HF.out HS.out A4 c4 hi4)
 clear hb4 hi4 HDo k0
 go_wp2_with fail
 with_reducible refine HWv.out.mono ?_
 rintro e w5 ⟨⟨gm,glm,clm,rfl,hmx⟩,hb5⟩
 have HB5:=Lib.hid (HB4.out.call hb5)
 have HMx:=Lib.hid hmx
 have HK5:=Lib.hid hb5
 have f2:w5.frozen? ⟨gx,2,none⟩=false:=HB5.out.lx.free 2
 have k2:w5.cell? ⟨gx,2,none⟩=some (.pointer none):=HB5.out.lx.cell 2
 have HB6:=Lib.hid (HB5.out.put 2 (.pointer (some ⟨gm,0,none⟩)))
 have HI6:=Lib.hid (HB5.out.its (HI4.out.below hb5) k2 (hpn none) (.pointer (some ⟨gm,0,none⟩)))
 have HLs:=Lib.hid (lsNew_any A4 (lenT S) c4 (owS S s) _ (by have:=HF.out.len;omega) HI6.out)
 clear hb5 hmx HWv
 go_wp2_with fail
 with_reducible refine HLs.out.mono ?_
 rintro e w7 ⟨⟨lv,rfl,hli⟩,hb7⟩
 obtain ⟨pl,rfl⟩:∃p,lv=.pointer p:=by
  obtain ⟨_,_,_,_,_,q,_⟩:=hli
  exact ⟨_,q⟩
 have HB7:=Lib.hid (HB6.out.call hb7)
 have HK7:=Lib.hid hb7
 have HLi:=Lib.hid hli
 have f4:w7.frozen? ⟨gx,4,none⟩=false:=HB7.out.lx.free 4
 have k4:w7.cell? ⟨gx,4,none⟩=some (.pointer none):=HB7.out.lx.cell 4
 have HB8:=Lib.hid (HB7.out.put 4 (.pointer pl))
 have HI8:=Lib.hid (HB7.out.its (HI6.out.below hb7) k4 (hpn none) (.pointer pl))
 have HLc:=Lib.hid (bdLcp HF.out HS.out A2 c2 A3 c3 (HI2.out _ _ HB8.out).1 (HI2.out _ _ HB8.out).2)
 clear hb7 hli HLs f2 k2
 go_wp2_with fail
 with_reducible refine HLc.out.mono ?_
 rintro e w9 ⟨⟨A9,c9,rfl,hi9⟩,hb9⟩
 have HB9:=Lib.hid (HB8.out.call hb9)
 have HK9:=Lib.hid hb9
 have HTl:=Lib.hid (bdTally HF.out A4 c4 A9 c9 (HI8.out.below hb9) hi9)
 clear hb9 hi9 HLc f4 k4
 go_wp2_with fail
 with_reducible refine HTl.out.mono ?_
 rintro e w10 ⟨⟨yv,rfl,hty⟩,hb10⟩
 obtain ⟨py,rfl⟩:∃p,yv=.pointer p:=by
  obtain ⟨_,_,_,_,_,q,_⟩:=hty
  exact ⟨_,q⟩
 have HB10:=Lib.hid (HB9.out.call hb10)
 have HK10:=Lib.hid hb10
 have HTy:=Lib.hid hty
 have f3:w10.frozen? ⟨gx,3,none⟩=false:=HB10.out.lx.free 3
 have k3:w10.cell? ⟨gx,3,none⟩=some (.pointer none):=HB10.out.lx.cell 3
 have HB11:=Lib.hid (HB10.out.put 3 (.pointer py))
 clear hb10 hty HTl
 go_wp2_with fail
 go_ret
 have hg0:=HL0.out
 have z6:=set_size w5 ⟨gx,2,none⟩ (.pointer (some ⟨gm,0,none⟩))
 have z8:=set_size w7 ⟨gx,4,none⟩ (.pointer pl)
 have z11:=set_size w10 ⟨gx,3,none⟩ (.pointer py)
 have y4:=HK4.out.size
 have y5:=HK5.out.size
 have y7:=HK7.out.size
 have y9:=HK9.out.size
 have y10:=HK10.out.size
 have q10:∀b,gx < b→FrB b w9 (w10.setCell ⟨gx,3,none⟩ (.pointer py)):=fun b h=>(FrB.call HK10.out).trans (FrB.put h _ _)
 have q7:∀b,gx < b→FrB b w7 (w10.setCell ⟨gx,3,none⟩ (.pointer py)):=fun b h=>((FrB.put h _ _).trans (FrB.call HK9.out)).trans (q10 b h)
 have q5:∀b,gx < b→FrB b w5 (w10.setCell ⟨gx,3,none⟩ (.pointer py)):=fun b h=>((FrB.put h _ _).trans (FrB.call HK7.out)).trans (q7 b h)
 have q0:FrB (gx+1) W (w10.setCell ⟨gx,3,none⟩ (.pointer py)):=((FrB.call HK4.out).trans (FrB.call HK5.out)).trans (q5 _ (Nat.lt_succ_self gx))
 have r5:=q5 w4.heap.size (by omega)
 have r7:=q7 (w5.setCell ⟨gx,2,none⟩ (.pointer (some ⟨gm,0,none⟩))).heap.size (by omega)
 have r10:=FrB.put (b:=w9.heap.size) (w:=w10) (g:=gx) (by omega) 3 (.pointer py)
 exact ⟨_,py,pl,rfl,HB11.out,⟨⟨gm,glm,clm,rfl,(HMx.out.keepB r5.1 r5.2).lowB (by omega)⟩,(HTy.out.keepB r10.1 r10.2).lowB (by omega),(HLi.out.keepB r7.1 r7.2).lowB (by omega)⟩,q0⟩
end
theorem ixBuild_yes (P:Option Addr) (c:Nat) (L:List Part) (w:World) (hl:L.length≤c) (hcm:c≤maxLen) (ho:Secs w w.heap.size P L) (hR:RightT (docsP L)):Calls Tryz.prog 10 #[.slice P L.length c] w fun e w'=>∃v,e=.returned (.tuple #[v,.int .i64 0])∧IdxAt w.heap.size w' v (docsP L)∧Below w.heap.size w w':=by
 have HN:=Lib.hid (tnew_any P c L w hl hcm ho)
 have HRt:=Lib.hid hR
 generalize docsP L=S at HN HRt ⊢
 clear hl hcm ho hR
 go_enter Tryz.func10,Tryz.ntmps10
 go_wp2_with fail
 with_reducible refine HN.out.mono ?_
 rintro e w1 ⟨h1,_,hb1⟩
 obtain ⟨gt,y,cx,cy,X,T,rfl,ht1⟩:=h1 HRt.out
 have hf:FitX S:=⟨HRt.out,ht1.small⟩
 have HF:=Lib.hid hf
 have HT1:=Lib.hid ht1
 have HB1:=Lib.hid hb1
 have HSy:=Lib.hid (bdSymbols ht1 hf)
 obtain ⟨al,hal⟩:∃al:Nat,S.length+256=al:=⟨_,rfl⟩
 have HAl:Hid (∀W,Below w1.heap.size w1 W→Calls Tryz.prog 30 #[.pointer (some ⟨gt,0,none⟩)] W fun e w'=>e=.returned (.int .i64 (al:Int))∧W=w'):=Lib.hid fun W hb=>hal▸talphabet_any (ht1.keep hb)
 have HA:=Lib.hid hal
 clear h1 ht1 hf hb1 hal HN
 go_wp2_with fail
 with_reducible refine HSy.out.mono ?_
 rintro e w2 ⟨⟨A2,c2,rfl,hi2⟩,hb2⟩
 have HSu:=Lib.hid (bdSuffix HF.out A2 c2 hi2)
 rw [HA.out] at HSu
 have HB2:=Lib.hid hb2
 have HI2:=Lib.hid hi2
 have HAl2:=Lib.hid (HAl.out w2 hb2)
 clear hb2 hi2 HSy
 go_wp2_with (first
  | (go_at_call 30;(with_reducible refine HAl2.out.mono ?_);rintro e w' ⟨rfl,rfl⟩)
  | (go_at_call 29;(with_reducible refine HSu.out.mono ?_);rintro e w3 ⟨⟨A3,c3,s,rfl,hs,hi3⟩,hb3⟩;have HS:=Lib.hid hs;have HI3:=Lib.hid hi3;have HB3:=Lib.hid (HB2.out.trans (hb3.mono HB2.out.size));have HI23:=Lib.hid (HI2.out.below hb3);have HT3:=Lib.hid (HT1.out.keep HB3.out);have HBd:Hid (BdIn w w3 (w3.alloc (.cells #[.pointer (some ⟨gt,0,none⟩),.pointer none,.pointer none,.pointer none,.pointer none] 74)) w3.heap.size [.pointer (some ⟨gt,0,none⟩),.pointer none,.pointer none,.pointer none,.pointer none]):=Lib.hid (by have q1:=HB1.out.trans (HB3.out.mono HB1.out.size);exact ⟨q1.alloc q1.size _,(Below.refl _ _).alloc (Nat.le_refl _) _,lies_new w3 74 _,rfl,q1.size⟩);have HLf:=Lib.hid (ixLayFinder_any HBd.out HT3.out HF.out hs HI23.out hi3);clear hs hi3 hb3)
  | (go_at_call 31;(with_reducible refine HLf.out.mono ?_);rintro e w4 ⟨pf,rfl,hbd4,hfx,hfr⟩;have HBd4:=Lib.hid hbd4;have HFx:=Lib.hid hfx;have HLo:=Lib.hid (ixLayOwners_any hbd4 HT3.out HF.out HS.out HI23.out HI3.out);clear hbd4 hfx hfr)
  | (go_at_call 32;(with_reducible refine HLo.out.mono ?_);rintro e w5 ⟨po,py,pl,rfl,hbd5,hown,hfr⟩;have HBd5:=Lib.hid hbd5;have HOwn:=Lib.hid hown;have HFr:=Lib.hid hfr;clear hbd5 hown hfr))
 go_ret2
 have e5:=HBd5.out
 obtain ⟨⟨gm,glm,clm,ho,hm⟩,hy,hl⟩:=HOwn.out
 have hg:w.heap.size≤w3.heap.size+1:=by have:=e5.g2;omega
 exact ⟨_,rfl,⟨w3.heap.size,s,_,_,_,_,_,rfl,e5.g2,e5.lx,⟨HF.out,HS.out,⟨gt,X,cx,y,cy,T,rfl,HT3.out.keep e5.b4⟩,(HFx.out.keepB HFr.out.1 HFr.out.2).lowB hg,⟨gm,glm,clm,ho,hm.lowB hg⟩,hy.lowB hg,hl.lowB hg⟩⟩,e5.b0⟩
theorem ixBuild_no (P:Option Addr) (c:Nat) (L:List Part) (w:World) (hl:L.length≤c) (hcm:c≤maxLen) (ho:Secs w w.heap.size P L) (hR:¬RightT (docsP L)):Calls Tryz.prog 10 #[.slice P L.length c] w fun e w'=>e=.returned (.tuple #[.pointer none,.int .i64 80])∧Below w.heap.size w w':=by
 have HN:=Lib.hid (tnew_any P c L w hl hcm ho)
 have HRt:=Lib.hid hR
 clear hl hcm ho hR
 go_enter Tryz.func10,Tryz.ntmps10
 go_wp2_with fail
 with_reducible refine HN.out.mono ?_
 rintro e w1 ⟨_,h1,hb1⟩
 obtain rfl:=h1 HRt.out
 go_wp2_with fail
 go_ret2
 exact ⟨rfl,hb1⟩
theorem idx_any:IdxI IdxAt where
 keep_:=fun h hs hb=>h.keepB hs hb
 ptr:=by
  rintro B w v S ⟨g,s,tv,fv,ov,yv,lv,rfl,_⟩
  exact ⟨_,rfl⟩
 fit:=by
  rintro B w v S ⟨g,s,tv,fv,ov,yv,lv,rfl,_,_,hp⟩
  exact hp.fit
 build:=by
  intro P c L w hl hcm _ ho
  by_cases hR:RightT (docsP L)
  · refine (ixBuild_yes P c L w hl hcm ho hR).mono ?_
    rintro e w' ⟨v,rfl,h1,h2⟩
    exact ⟨fun _=>⟨v,rfl,h1⟩,fun h=>absurd hR h,h2⟩
  · refine (ixBuild_no P c L w hl hcm ho hR).mono ?_
    rintro e w' ⟨rfl,h2⟩
    exact ⟨fun h=>absurd h hR,fun _=>rfl,h2⟩
 right:=fun A n c V w hn _ _=>(ixRight_any A n c w hn).mono fun e w' ⟨h1,h2⟩=>⟨h1,by rw [←h2];exact Below.refl _ _⟩
 range_:=by
  rintro B v S A n c V w ⟨g,s,tv,fv,ov,yv,lv,rfl,_,hl,hp⟩ hn hA ho
  by_cases hq:RightQ n
  · refine (ixRange_yes hl hp A n c V hq hA ho).mono ?_
    rintro e w' ⟨rfl,h2⟩
    exact ⟨fun _=>⟨s,hp.sa,rfl⟩,fun h=>absurd hq h,h2⟩
  · refine (ixRange_no ⟨g,0,none⟩ A n c (by unfold maxLen;omega) hq).mono ?_
    rintro e w' ⟨rfl,h2⟩
    exact ⟨fun h=>absurd h hq,fun _=>rfl,by rw [←h2];exact Below.refl _ _⟩
 count:=by
  rintro B v S A n c V w ⟨g,s,tv,fv,ov,yv,lv,rfl,_,hl,hp⟩ hn hA ho
  by_cases hq:RightQ n
  · refine (ixCount_yes hl hp A n c V hq hA ho).mono ?_
    rintro e w' ⟨rfl,h2⟩
    exact ⟨fun _=>rfl,fun h=>absurd hq h,h2⟩
  · refine (ixCount_no ⟨g,0,none⟩ A n c (by unfold maxLen;omega) hq).mono ?_
    rintro e w' ⟨rfl,h2⟩
    exact ⟨fun h=>absurd h hq,fun _=>rfl,h2⟩
 list:=by
  rintro B v S A n c V w ⟨g,s,tv,fv,ov,yv,lv,rfl,_,hl,hp⟩ hn hA ho
  exact ixList_any hl hp A n c V (by unfold maxLen;omega) hA ho
 top:=by
  rintro B v S A n c V K w ⟨g,s,tv,fv,ov,yv,lv,rfl,_,hl,hp⟩ hn hA ho _
  exact ixTop_any hl hp A n c V K (by unfold maxLen;omega) hA ho
 places:=by
  rintro B v S A n c V w ⟨g,s,tv,fv,ov,yv,lv,rfl,_,hl,hp⟩ hn hA ho
  exact ixPlaces_any hl hp A n c V (by unfold maxLen;omega) hA ho
end Go.Proofs.YtcidobpbepeakaaGreat
