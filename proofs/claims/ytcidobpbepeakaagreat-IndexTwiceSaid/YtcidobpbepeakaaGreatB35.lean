/- Texts of ours, joined: LstAny. -/
import Derived.Test.YtcidobpbepeakaaGreatB03
import Derived.Test.YtcidobpbepeakaaGreatB16
import Derived.Test.YtcidobpbepeakaaGreatB14
import Derived.Test.YtcidobpbepeakaaGreatB01
import Derived.Test.YtcidobpbepeakaaGreatB24
import Derived.Test.YtcidobpbepeakaaGreatB12
import Derived.Test.YtcidobpbepeakaaGreatB02
import Derived.Test.YtcidobpbepeakaaGreatB17
import Derived.Test.YtcidobpbepeakaaGreatB08
import Derived.Test.YtcidobpbepeakaaGreatB05
import Derived.WalkSmall
set_option maxRecDepth 1000000
set_option maxHeartbeats 6400000
namespace Go.Proofs.YtcidobpbepeakaaGreat
open Go.RowKit Go.Shelf
theorem info_part:(Tryz.prog.info? 157).map (fun i=>(i.zero,i.size,i.bytes))=some (some (.agg #[.int .i64 0,.int .i64 0]),2,16):=by kernel_rfl
theorem step_append_pairs {t e:TypeId} {i0:TypeInfo} {z0 z1:Value} (ht:Tryz.prog.underlying t=some (.slice e)) (hi0:Tryz.prog.info? e=some i0) (hz0:i0.zero=some (.agg #[z0,z1])) (hs0:i0.size=2) (hb0:i0.bytes=16) (hzs:(Value.agg #[z0,z1]).cells.size=2)
    {ops:Array Oper} {rest:List Oper} {o:Oper} {a:Act} {Q:Exit→Act→World→Prop} (hgd:o.guard=none) (s x:Operand)
    (ho:o.op=.call { callee:=.builtin .append,args:=#[s,x],argTypes:=#[t,t] })
    {w:World} {B:Nat} {v:Value} {n:Nat} {xs:List Value} (hs:a.eval s=v) (hown:w.ownsRow B e 2 v n xs) (y1 y2 y3 y4:Int) (hx:a.eval x=.slice (some ⟨w.heap.size,0,none⟩) 2 2) (hB:B≤w.heap.size) (hi:n≤8388608)
    (h:∀A c w',Hid (w'.ownsRow B e 2 (.slice A (n+2) c) (n+2) (xs++[.int .i64 y1,.int .i64 y2,.int .i64 y3,.int .i64 y4]))→Hid (w.grownBy w' v.ownBlock)→Below B w w'→wpList Tryz.prog ops Q rest (a.put o.dst (.slice A (n+2) c)) w'):
    wpList Tryz.prog ops Q (o::rest) a (w.alloc (.cells #[.int .i64 y1,.int .i64 y2,.int .i64 y3,.int .i64 y4] e)):=by
 have hl:=lies_new w e [.int .i64 y1,.int .i64 y2,.int .i64 y3,.int .i64 y4]
 refine wpList_append_own _ hgd s x t ho B e i0 (.agg #[z0,z1]) 2 16 ht hi0 hz0 hs0 hb0 hzs (by decide) v n xs hs (hown.alloc _) ⟨w.heap.size,0,none⟩ 2 2 [.int .i64 y1,.int .i64 y2,.int .i64 y3,.int .i64 y4] hx rfl (fun j u hj=>by
     rcases j with _ | _ | _ | _ | j
     · have hj:some _=some u:=hj
       cases hj
       exact hl.cell 0
     · have hj:some _=some u:=hj
       cases hj
       exact hl.cell 1
     · have hj:some _=some u:=hj
       cases hj
       exact hl.cell 2
     · have hj:some _=some u:=hj
       cases hj
       exact hl.cell 3
     · simp at hj) (fun u hu=>by simp at hu;rcases hu with rfl | rfl | rfl | rfl <;> rfl) (by unfold maxLen;omega) (by omega) (by rw [size_alloc];omega) (fun v' w' h2 h3 _=>?_)
 have hg:=grownBy_trans (World.grownBy_alloc w _ _) h3
 have hb:Below B w w':=((Below.refl _ _).alloc hB _).grown h3 (by rw [size_alloc];omega) (fun k hk=>(hown.lt k hk).1)
 rcases owns_slice2 h2 with ⟨h0,_⟩ | ⟨g,c,e,_⟩
 · omega
 · subst e
   exact h _ _ w' (Lib.hid h2) (Lib.hid hg) hb
theorem dcells_push (X Y:Nat→Int) (m:Nat) (y1 y2 y3 y4:Int):dcells X Y m++[.int .i64 y1,.int .i64 y2,.int .i64 y3,.int .i64 y4]=dcells (setF (setF X m y1) (m+1) y3) (setF (setF Y m y2) (m+1) y4) (m+2):=by
 show _=(dcells _ _ m++[.int .i64 _,.int .i64 _])++[.int .i64 _,.int .i64 _]
 rw [setF_at,setF_at,setF_off (setF X m y1) y3 (show m≠m+1 by omega),setF_off (setF Y m y2) y4 (show m≠m+1 by omega),setF_at,setF_at,List.append_assoc,dcells_congr (n:=m) (X:=X) (Y:=Y) (X':=setF (setF X m y1) (m+1) y3) (Y':=setF (setF Y m y2) (m+1) y4) fun k hk=>by
  rw [setF_off _ _ (by omega),setF_off _ _ (by omega),setF_off _ _ (by omega),setF_off _ _ (by omega)]
  exact ⟨rfl,rfl⟩]
 rfl
theorem icells_found (V:Nat→Int) (s:Nat→Nat) (k i:Nat):icells (fun j=>V (s j)) k++[.int .i64 (V i)]=icells (fun j=>V (setN s k i j)) (k+1):=by
 rw [icells_snoc,setN_at,icells_congr (U:=fun j=>V (setN s k i j)) (U':=fun j=>V (s j)) fun j hj=>by rw [setN_off _ _ (by omega)]]
def sLen:Value→Nat
 | .slice _ n _=>n
 | _=>0
theorem rqLeast_quiet {B:Nat} {w:World} {v:Value} {n:Nat} {V:Nat→Int} (h:RmqAt B w v n V) (x y:Int):Calls Tryz.prog 102 #[v,.int .i64 x,.int .i64 y] w fun e w'=>e=.returned (.int .i64 (lstR V x y n))∧∃k,w'=w.drewN k:=by
 obtain ⟨g,A,c,rv,P,rfl,h2,h3,h4⟩:=h
 exact rqLeast_any h2 h3 h4 x y
theorem lsSort_any {wr:World} {B:Nat} {A1:Option Addr} {k c1:Nat} {V:Nat→Int} {s:Nat→Nat} {a b:Int} {n:Nat} {X Y:Nat→Int} {m:Nat} (hU:wr.ownsRow B 3 1 (.slice A1 k c1) k (icells (fun j=>V (s j)) k)) (hI:LsIn V a b n s k X Y m) (hk:k≤4194304) (hV:∀i,i < n→ -9223372036854775808≤V i∧V i≤9223372036854775807):
    Calls Tryz.prog 66 #[.slice A1 k c1] wr fun e w'=>e=.returned (.tuple #[])∧(∃F,EnumS (fun x=>∃j,j < k∧V (s j)=x) F k∧ItsR w' A1 k c1 F)∧Below B wr w':=by
 have hr:=owns_room hU
 rcases Nat.eq_zero_or_pos k with rfl | hk0
 · refine (Any.slices_Sort_int_none sortLays A1 c1 wr).mono ?_
   rintro e w' ⟨rfl,rfl⟩
   refine ⟨rfl,⟨fun _=>0,EnumS.none fun x ⟨j,hj,_⟩=>absurd hj (Nat.not_lt_zero j),fun e=>⟨rfl,?_⟩,hr.1,hr.2,fun j hj=>absurd hj (Nat.not_lt_zero j)⟩,Below.refl _ _⟩
   rcases hU.2 with ⟨e2,_⟩ | ⟨g,cap,cur,e2,_⟩
   · injection e2
   · injection e2 with e3
     rw [e] at e3
     cases e3
 · obtain ⟨g,cap,e,hB,hg,_⟩:=owns_some hU hk0
   injection e with ea _ ec
   subst ea ec
   refine (sortRow_in (lo:=B) hB hk hg (fun j hj=>(hU.cellAt j (by omega)).trans (icells_at _ _ _ hj)) (fun j _=>hU.frozenAt j)).mono ?_
   rintro e w' ⟨rfl,⟨hg2,ys,h1,h2,h3,h4⟩,hb⟩
   have hE:=hI.sorted h1 h2 h3
   refine ⟨rfl,⟨_,hE,fun e=>(by cases e),hr.1,hr.2,fun j hj=>⟨_,rfl,hg2,?_,?_⟩⟩,hb⟩
   · rw [Addr.add_mid,Nat.zero_add]
     exact h4 j hj
   · obtain ⟨q,hq,e⟩:=(hE.each _).2 ⟨j,hj,rfl⟩
     show -9223372036854775808≤ys.getD j 0∧ys.getD j 0≤9223372036854775807
     have e:V (s q)=ys.getD j 0:=e
     rw [←e]
     exact hV _ (hI.fst q hq).lt
structure Ls (w:World) (B g:Nat) (A:Option Addr) (c gb:Nat) (pr:Addr) (n:Nat) (V:Nat→Int):Prop where
 head:Lies w g 144 [.slice A n c,.slice (some ⟨gb,0,none⟩) n n,.pointer (some pr)]
 da:w.ownsRow B 3 1 (.slice A n c) n (icells V n)
 back:Lies w gb 3 (icells (lastD V) n)
 rmq:∃Br,B≤Br∧RmqAt Br w (.pointer (some pr)) n (lastD V)
 lo:B≤g∧B≤gb
 few:n≤4194303
 room:∀i,i < n→ -9223372036854775808≤V i∧V i≤9223372036854775807
def LsPost (w:World) (V:Nat→Int) (a b k:Int) (n:Nat) (e:Ending) (w':World):Prop:=
 (∃(A:Option Addr) (c m:Nat) (F G:Nat→Int) (t:Nat),e=.returned (.slice A m c)∧EnumS (RngS V a b n) G t∧(m:Int)=max 0 (min k (t:Int))∧(∀p q,p < q→q < m→F p < F q)∧(∀p,p < m→RngS V a b n (F p))∧ItsR w' A m c F)∧Below w.heap.size w w'
section
variable {w w':World} {B g n c gb:Nat} {A:Option Addr} {pr:Addr} {V:Nat→Int}
theorem Ls.keepB (h:Ls w B g A c gb pr n V) (hs:w.heap.size≤w'.heap.size) (hb:∀k,B≤k→k < w.heap.size→w'.heap[k]?=w.heap[k]?):Ls w' B g A c gb pr n V:=
 ⟨h.head.same (hb g h.lo.1 h.head.lt),owns_sameB h.da hb,h.back.same (hb gb h.lo.2 h.back.lt),(by
   obtain ⟨Br,h1,h2⟩:=h.rmq
   exact ⟨Br,h1,rmq_any.keep_ h2 hs fun k hk=>hb k (Nat.le_trans h1 hk)⟩),h.lo,h.few,h.room⟩
theorem Ls.keep (h:Ls w B g A c gb pr n V) (hb:Below w.heap.size w w'):Ls w' B g A c gb pr n V:=h.keepB hb.size fun k _ hk=>hb.block k hk
theorem Ls.drewN (h:Ls w B g A c gb pr n V) (k:Nat):Ls (w.drewN k) B g A c gb pr n V:=h.keepB (Nat.le_refl _) fun _ _ _=>rfl
theorem lsSome_any (h:Ls w B g A c gb pr n V) (x y most:Int) (hx1: -9223372036854775808≤x) (hx2:x≤9223372036854775807) (hy1: -9223372036854775808≤y) (hy2:y≤9223372036854775807):
    Calls Tryz.prog 60 #[.pointer (some ⟨g,0,none⟩),.int .i64 x,.int .i64 y,.int .i64 most] w (LsPost w V x y most n):=by
 have H:=Lib.hid h
 have hn:=h.few
 obtain ⟨a,ha⟩:∃a,max x 0=a:=⟨_,rfl⟩
 have HA:=Lib.hid ha
 have ha0:0≤a:=by omega
 have ha1:a≤9223372036854775807:=by omega
 clear h ha
 go_enter Tryz.func60,Tryz.ntmps60
 go_upto_region 3 with (fail)
 go_cut [1] (fun s wx=>s=.int .i64 a∧w=wx)
 case first=>
  have ha:=HA.out
  by_cases h1:x < 0
  all_goals
   go_wp2_with fail
   go_meet
   exact ⟨by congr 1,rfl⟩
 case rest=>
 obtain ⟨rfl,hwc⟩:=hcut
 subst hwc
 have HL0:=Lib.hid (World.ownsRow_lit (base:=w.heap.size) (e:=157) (size:=2) w #[.int .i64 a,.int .i64 y] 1 (Nat.le_refl _) (by unfold maxLen;omega) rfl)
 have HB0:Hid (Below w.heap.size w (w.alloc (.cells #[.int .i64 a,.int .i64 y] 157))):=Lib.hid ((Below.refl _ _).alloc (Nat.le_refl _) _)
 have HU0:=Lib.hid (World.ownsRow_nil (w.alloc (.cells #[.int .i64 a,.int .i64 y] 157)) w.heap.size 3 1)
 go_wp2_with fail
 go_loopw [9,10] (fun u v wr=>∃(A1:Option Addr) (c1 k:Nat) (A2:Option Addr) (c2 m:Nat) (s:Nat→Nat) (X Y:Nat→Int),u=.slice A1 k c1∧v=.slice A2 m c2∧Hid (wr.ownsRow w.heap.size 3 1 (.slice A1 k c1) k (icells (fun j=>V (s j)) k))∧Hid (wr.ownsRow w.heap.size 157 2 (.slice A2 m c2) m (dcells X Y m))∧Hid (LsIn V a y n s k X Y m)∧Hid ((k:Int)≤max 0 most∧m≤k+1)∧Hid (Below w.heap.size w wr)) (fun u v _=>2*(n - sLen u)+sLen v)
 case atStart=>exact ⟨none,0,0,_,1,1,fun _=>0,fun _=>a,fun _=>y,rfl,rfl,HU0,HL0,Lib.hid (LsIn.start V a y n _ _ _ rfl rfl),Lib.hid ⟨by omega,by omega⟩,HB0⟩
 case round=>
  clear HL0 HB0 HU0
  obtain ⟨A1,c1,k,A2,c2,m,s,X,Y,rfl,rfl,hU,hL,hI,hK,hB⟩:=hrel
  have hkn:=hI.out.few
  have hk2:=hK.out.2
  have hsz:=hB.out.size
  by_cases hgo:0 < m∧(k:Int) < most
  · obtain ⟨m,rfl⟩:∃m',m=m'+1:=⟨m - 1,by omega⟩
    obtain ⟨hm0,hkm⟩:=hgo
    rcases owns_slice2 hL.out with ⟨h0,_⟩ | ⟨g2,cc,e,hg2,hg2s⟩
    · omega
    injection e with ea _ ec
    subst ea ec
    have d1:wr.cell? ⟨g2,m*2,none⟩=some (.int .i64 (X m)):=(hL.out.cellAt (m*2) (by omega)).trans (dcells_at X Y (m+1) m (by omega)).1
    have d2:wr.cell? ⟨g2,m*2+1,none⟩=some (.int .i64 (Y m)):=(hL.out.cellAt (m*2+1) (by omega)).trans (dcells_at X Y (m+1) m (by omega)).2
    have hr2:=owns_room2' hL.out
    unfold maxLen at hr2
    have g4:m≤c2:=by omega
    have g5:¬c2=0:=by omega
    have hL2:=Lib.hid (ownsRow_pop (dcells_length X Y m) hL.out)
    have e1:IntKind.i64.wrap (((m+1:Nat):Int) - 1)=(m:Int):=by rw [IntWalk.i64_in _ (by omega)];omega
    have g0:decide ((0:Int) < ((m+1:Nat):Int))=true:=decide_eq_true (by omega)
    have g1:decide ((k:Int) < most)=true:=decide_eq_true hkm
    have g3:(m:Int) < ((m+1:Nat):Int):=by omega
    obtain ⟨⟨hx1,hx2⟩,hy1,hy2⟩:=hI.out.room m (by omega)
    have hBW:Hid (Below w.heap.size w (wr.alloc (.cells #[.int .i64 (X m),.int .i64 (Y m)] 157))):=Lib.hid (hB.out.alloc hsz _)
    have hBr:Hid (Below wr.heap.size wr (wr.alloc (.cells #[.int .i64 (X m),.int .i64 (Y m)] 157))):=Lib.hid ((Below.refl _ _).alloc (Nat.le_refl _) _)
    have hUW:=Lib.hid (hU.out.alloc (.cells #[.int .i64 (X m),.int .i64 (Y m)] 157))
    have hLW:=Lib.hid (hL2.out.alloc (.cells #[.int .i64 (X m),.int .i64 (Y m)] 157))
    have l0:=lies_new wr 157 [.int .i64 (X m),.int .i64 (Y m)]
    have hP:=size_alloc wr (.cells #[.int .i64 (X m),.int .i64 (Y m)] 157)
    obtain ⟨W,hW⟩:∃W,wr.alloc (.cells #[.int .i64 (X m),.int .i64 (Y m)] 157)=W:=⟨_,rfl⟩
    obtain ⟨P,hPe⟩:∃P,wr.heap.size=P:=⟨_,rfl⟩
    rw [hW] at hBW hBr hUW hLW l0 hP
    rw [hPe] at l0 hP
    have HW:=Lib.hid (H.out.keep hBW.out)
    have q0:∀j,(W.drewN j).cell? ⟨P,0,none⟩=some (.int .i64 (X m)):=fun j=>l0.cell 0
    have q1:∀j,(W.drewN j).cell? ⟨P,1,none⟩=some (.int .i64 (Y m)):=fun j=>l0.cell 1
    have p0:∀j,(W.drewN j).cell? ⟨g,0,none⟩=some (.slice A n c):=fun j=>HW.out.head.cell 0
    have p1:∀j,(W.drewN j).cell? ⟨g,1,none⟩=some (.slice (some ⟨gb,0,none⟩) n n):=fun j=>HW.out.head.cell 1
    have p2:∀j,(W.drewN j).cell? ⟨g,2,none⟩=some (.pointer (some pr)):=fun j=>HW.out.head.cell 2
    have HLe:∀j,Hid (Calls Tryz.prog 102 #[.pointer (some pr),.int .i64 (X m),.int .i64 (Y m)] (W.drewN j) fun e w'=>e=.returned (.int .i64 (lstR (lastD V) (X m) (Y m) n))∧∃k,w'=W.drewN k):=fun j=>Lib.hid ((rqLeast_quiet (HW.out.drewN j).rmq.choose_spec.2 (X m) (Y m)).mono fun e w' hh=>by
     obtain ⟨h1,k,h2⟩:=hh
     exact ⟨h1,_,h2.trans (World.drewN_drewN _ _ _)⟩)
    obtain ⟨r,hr⟩:∃r,lstR (lastD V) (X m) (Y m) n=r:=⟨_,rfl⟩
    rw [hr] at HLe
    have HR:=Lib.hid hr
    have HLs:=Lib.hid l0
    clear hL hL2 hr l0
    go_wp2_with fail
    go_quiet ((go_at_call 102;with_reducible exact (HLe _).out))
    rename Nat=>q
    have hBq:Hid (Below w.heap.size w (W.drewN q)):=Lib.hid (below_drewN' hBW.out q)
    have hUq:Hid ((W.drewN q).ownsRow w.heap.size 3 1 (.slice A1 k c1) k (icells (fun j=>V (s j)) k)):=hUW
    have hLq:Hid ((W.drewN q).ownsRow w.heap.size 157 2 (.slice (some ⟨g2,0,none⟩) m c2) m (dcells X Y m)):=hLW
    by_cases hr0:r < 0
    · have HI2:=Lib.hid (hI.out.miss (least_none (by rw [HR.out];exact hr0)))
      have g6:decide (r < 0)=true:=decide_eq_true hr0
      go_wp2_with fail
      go_roundw
      case rel=>exact ⟨A1,c1,k,_,c2,m,s,X,Y,rfl,rfl,hUq,hLq,HI2,Lib.hid ⟨hK.out.1,by omega⟩,hBq⟩
      case measure=>simp [sLen]
    · obtain ⟨p,rfl⟩:∃p:Nat,r=(p:Int):=⟨r.toNat,by omega⟩
      have g6:decide ((p:Int) < 0)=false:=decide_eq_false hr0
      have hpn:p < n:=by
       rcases lstR_is (lastD V) (X m) (Y m) n with ⟨e,_⟩ | ⟨q,e,e2⟩
       · have:=HR.out;omega
       · obtain rfl:q=p:=by have:=HR.out;omega
         exact e2.lt
      have hpni:(p:Int) < (n:Int):=by omega
      have qb:(W.drewN q).cell? ⟨gb,p,none⟩=some (.int .i64 (lastD V p)):=(HW.out.back.cell p).trans (icells_at _ _ _ hpn)
      by_cases ha2:a≤lastD V p
      · have HI2:=Lib.hid (hI.out.miss (least_high HR.out ha2))
        have g7:decide (a≤lastD V p)=true:=decide_eq_true ha2
        obtain ⟨z,hz⟩:∃z,lastD V p=z:=⟨_,rfl⟩
        rw [hz] at qb ha2 g7
        go_wp2_with fail
        go_roundw
        case rel=>exact ⟨A1,c1,k,_,c2,m,s,X,Y,rfl,rfl,hUq,hLq,HI2,Lib.hid ⟨hK.out.1,by omega⟩,hBq⟩
        case measure=>simp [sLen]
      · have g7:decide (a≤lastD V p)=false:=decide_eq_false ha2
        obtain ⟨hf,hlo,hhi⟩:=least_hit HR.out (show lastD V p < a by omega) hx1 hy2
        have HI2:=Lib.hid (hI.out.hit hf hlo hhi)
        have hk3:=HI2.out.few
        obtain ⟨gd,cd,ed,_,_,hcd⟩:=owns_some H.out.da (by omega)
        injection ed with ea _ ec
        subst ea ec
        have qd:(W.drewN q).cell? ⟨gd,p,none⟩=some (.int .i64 (V p)):=(HW.out.da.cellAt p (by omega)).trans (icells_at _ _ _ hpn)
        have HF:=Lib.hid (icells_found V s k p)
        obtain ⟨z,hz⟩:∃z,lastD V p=z:=⟨_,rfl⟩
        rw [hz] at qb ha2 g7
        obtain ⟨vp,hvp⟩:∃vp,V p=vp:=⟨_,rfl⟩
        rw [hvp] at qd HF
        obtain ⟨i0,hi0,hz0,hs0,hb0⟩:=info_parts info_part
        have e2:IntKind.i64.wrap ((p:Int)+1)=(p:Int)+1:=IntWalk.i64_in _ (by omega)
        have HNE:Hid (some P≠(Value.slice A1 k c1).ownBlock):=Lib.hid fun e=>by
         have:=(hU.out.lt P e.symm).2
         omega
        have hsq:=hBq.out.size
        have hun:=Lib.hid (owns_unlike hLq.out hUq.out (by decide))
        have HPush:=Lib.hid (dcells_push X Y m ((p:Int)+1) (Y m) (X m) (p:Int))
        clear hP hz hvp hf hlo hhi hI hU HW hBW hBr hUW hLW HLe HR
        go_wp2_with (first
         | (at_builtin;refine step_append_int_own rfl (.tmp 63) (.tmp 71) rfl (B:=w.heap.size) (v:=.slice A1 k c1) (i:=k) (xs:=icells (fun j=>V (s j)) k) rfl hUq.out vp rfl hsq (by omega) ?_;intro gu cu w5 hu5 hg5 hb5
            have l5:=(HLs.out.drewN q).grown hg5.out.1 HNE.out
            have c50:w5.cell? ⟨P,0,none⟩=some (.int .i64 (X m)):=l5.cell 0
            have c51:w5.cell? ⟨P,1,none⟩=some (.int .i64 (Y m)):=l5.cell 1
            have hL5:=Lib.hid (hLq.out.kept hg5.out.1 hun.out)
            have hs5:=Nat.le_trans hsq hb5.size
            clear l5)
         | (at_builtin;refine step_append_pairs Tryz.underlying158 hi0 hz0 hs0 hb0 rfl rfl (.tmp 73) (.tmp 83) rfl (B:=w.heap.size) (v:=.slice (some ⟨g2,0,none⟩) m c2) (n:=m) (xs:=dcells X Y m) rfl hL5.out ((p:Int)+1) (Y m) (X m) (p:Int) rfl hs5 (by omega) ?_;intro A6 c6 w6 hl6 hg6 hb6))
        have hU6:Hid (w6.ownsRow w.heap.size 3 1 (.slice (some ⟨gu,0,none⟩) (k+1) cu) (k+1) (icells (fun j=>V (setN s k p j)) (k+1))):=Lib.hid (by
         rw [←HF.out]
         exact hu5.out.kept hg6.out (owns_unlike hu5.out hL5.out (by decide)))
        have hL6:Hid (w6.ownsRow w.heap.size 157 2 (.slice A6 (m+2) c6) (m+2) (dcells (setF (setF X m ((p:Int)+1)) (m+1) (X m)) (setF (setF Y m (Y m)) (m+1) (p:Int)) (m+2))):=Lib.hid (by
         rw [←HPush.out]
         exact hl6.out)
        go_roundw
        case rel=>exact ⟨_,cu,k+1,A6,c6,m+2,setN s k p,_,_,rfl,rfl,hU6,hL6,HI2,Lib.hid ⟨by omega,by omega⟩,Lib.hid ((hBq.out.trans hb5).trans hb6)⟩
        case measure=>simp [sLen];omega
  · have HS:=Lib.hid (lsSort_any hU.out hI.out (by omega) H.out.room)
    have HX:Hid (m=0∨most≤(k:Int)):=Lib.hid (by omega)
    have hend:∀w',Below w.heap.size wr w'→∀F,EnumS (fun x=>∃j,j < k∧V (s j)=x) F k→ItsR w' A1 k c1 F→LsPost w V x y most n (.returned (.slice A1 k c1)) w':=fun w' hb F hF hR=>by
     have hI2:=hI.out
     rw [←HA.out] at hI2
     obtain ⟨G,t,h1,h2,h3,h4⟩:=hI2.done hF hK.out.1 HX.out
     exact ⟨⟨A1,c1,k,F,G,t,rfl,h1,h2,h3,h4,hR⟩,hB.out.trans hb⟩
    have HE:=Lib.hid hend
    clear hend hI hU hL
    by_cases hm:m=0
    · subst hm
      have g0:decide ((0:Int) < ((0:Nat):Int))=false:=by decide
      go_wp2_with (go_at_call 66;(with_reducible refine HS.out.mono ?_);rintro e w2 ⟨rfl,⟨F,hF,hR⟩,hb⟩)
      go_ret
      exact HE.out _ hb F hF hR
    · have g0:decide ((0:Int) < (m:Int))=true:=decide_eq_true (by omega)
      have g1:decide ((k:Int) < most)=false:=decide_eq_false (by omega)
      go_wp2_with (go_at_call 66;(with_reducible refine HS.out.mono ?_);rintro e w2 ⟨rfl,⟨F,hF,hR⟩,hb⟩)
      go_ret
      exact HE.out _ hb F hF hR
theorem lsDocs_any (h:Ls w B g A c gb pr n V) (x y:Int) (hx1: -9223372036854775808≤x) (hx2:x≤9223372036854775807) (hy1: -9223372036854775808≤y) (hy2:y≤9223372036854775807):
    Calls Tryz.prog 35 #[.pointer (some ⟨g,0,none⟩),.int .i64 x,.int .i64 y] w fun e w'=>(∃u,e=.returned u∧EnumR w' (RngS V x y n) u)∧Below w.heap.size w w':=by
 have HS:=Lib.hid (lsSome_any h x y 4194304 hx1 hx2 hy1 hy2)
 have hn:=h.few
 clear h
 go_enter Tryz.func35,Tryz.ntmps35
 go_wp2_with fail
 refine HS.out.mono ?_
 rintro e w2 ⟨⟨A1,c1,m,F,G,t,rfl,hG,hm,hr,hs,hR⟩,hb⟩
 have htn:=RngS.most hG
 have HE:Hid (EnumR w2 (RngS V x y n) (.slice A1 m c1)):=Lib.hid ⟨A1,c1,m,F,rfl,EnumS.whole (S:=fun z=>∃p,p < m∧F p=z) ⟨hr,fun z=>Iff.rfl⟩ hG (fun z ⟨p,hp,e⟩=>e▸hs p hp) (by omega),hR⟩
 clear hG hm hr hs hR
 go_wp2_with fail
 go_ret
 exact ⟨⟨_,rfl,HE.out⟩,hb⟩
end
def LisAt (B:Nat) (w:World) (v:Value) (n:Nat) (V:Nat→Int):Prop:=∃(g:Nat) (A:Option Addr) (c gb:Nat) (pr:Addr),v=.pointer (some ⟨g,0,none⟩)∧Ls w B g A c gb pr n V
theorem lsNew_any (A:Option Addr) (n c:Nat) (V:Nat→Int) (w:World) (hn:n≤4194303) (ho:ItsR w A n c V):
    Calls Tryz.prog 55 #[.slice A n c] w fun e w'=>(∃v,e=.returned (.tuple #[v,.int .i64 0])∧LisAt w.heap.size w' v n V)∧Below w.heap.size w w':=by
 have HO:=Lib.hid ho
 have HV:=Lib.hid ho.2.2.2.small
 have HBk:=Lib.hid (docBack_lies A n c V w hn ho)
 have g2:decide ((4194304:Int) < (n:Int))=false:=decide_eq_false (by omega)
 have g3:¬(4194304:Int) < (n:Int):=by omega
 clear ho
 go_enter Tryz.func55,Tryz.ntmps55
 go_wp2_with fail
 refine HBk.out.mono ?_
 rintro e w1 ⟨rfl,hl,hb1⟩
 have HR:=Lib.hid (rmq_any.new (some ⟨w.heap.size,0,none⟩) n n (lastD V) w1 hn (itsR_lies hl (by omega) (fun _ _=>rfl) (fun j hj=>by
  have:=lastD_room V j
  omega)))
 have HL1:=Lib.hid hl
 have HB1:=Lib.hid hb1
 have hb1s:=hb1.size
 clear hl hb1 HBk
 go_wp2_with fail
 refine HR.out.mono ?_
 rintro e w2 ⟨⟨v,rfl,hAt⟩,hb2⟩
 obtain ⟨pr,rfl⟩:=rmq_any.ptr hAt
 have HL2:=Lib.hid (HL1.out.below hb2 HL1.out.lt)
 have HB2:=Lib.hid (HB1.out.trans (hb2.mono hb1s))
 have hb2s:=HB2.out.size
 have HC:=Lib.hid (wvClone_any A n c V w2 (by omega) (HO.out.below HB2.out))
 have HAt:=Lib.hid hAt
 clear hAt hb2 HR HL1 HB1
 go_wp2_with fail
 refine HC.out.mono ?_
 rintro e w3 ⟨v,rfl,hD,hb3⟩
 obtain ⟨A3,c3,rfl⟩:=owns_slice hD
 have HL3:=Lib.hid (HL2.out.below hb3 HL2.out.lt)
 have HA3:=Lib.hid (rmq_any.keep HAt.out hb3)
 have HB3:=Lib.hid (HB2.out.trans (hb3.mono hb2s))
 have HD3:=Lib.hid (ownsRow_lower hD hb2s)
 have hb3s:=HB3.out.size
 clear hD hb3 HC HAt HL2 HB2
 go_wp2_with fail
 go_ret2
 have hz:=(Below.refl w3.heap.size w3).alloc (Nat.le_refl _) (.cells #[.slice A3 n c3,.slice (some ⟨w.heap.size,0,none⟩) n n,.pointer (some pr)] 144)
 exact ⟨⟨_,rfl,w3.heap.size,A3,c3,w.heap.size,pr,rfl,lies_new w3 _ [.slice A3 n c3,.slice (some ⟨w.heap.size,0,none⟩) n n,.pointer (some pr)],HD3.out.alloc _,HL3.out.alloc _,⟨_,hb1s,rmq_any.keep HA3.out hz⟩,⟨hb3s,Nat.le_refl _⟩,hn,HV.out⟩,HB3.out.alloc hb3s _⟩
end Go.Proofs.YtcidobpbepeakaaGreat
