/- Texts of ours, joined: SaParts SaBack. -/
import Derived.Test.YtcidobpbepeakaaGreatB03
import Derived.Test.YtcidobpbepeakaaGreatB01
import Derived.Deep.QuietTactic
import Derived.Test.YtcidobpbepeakaaGreatB04
import Derived.Test.YtcidobpbepeakaaGreatB28
import Derived.StillTailTactics
set_option maxRecDepth 1000000
set_option maxHeartbeats 6400000
namespace Go.Proofs.YtcidobpbepeakaaGreat
open Go.RowKit
def blcells (f:Nat→Bool) (n:Nat):List Value:=(List.range n).map fun t=>Value.bool (f t)
theorem blcells_length (f:Nat→Bool) (n:Nat):(blcells f n).length=n:=by unfold blcells;simp
theorem blcells_at (f:Nat→Bool) (n k:Nat) (h:k < n):(blcells f n)[k]?=some (.bool (f k)):=by
 unfold blcells
 rw [List.getElem?_map,List.getElem?_range h]
 rfl
theorem blcells_congr {f f':Nat→Bool} {n:Nat} (h:∀j,j < n→f j=f' j):blcells f n=blcells f' n:=by
 unfold blcells
 exact List.map_congr_left fun j hj=>by rw [h j (List.mem_range.1 hj)]
def hdI (X:Nat→Nat) (n:Nat) (x:Nat):Int:=((hd X n x:Nat):Int)
structure Rw (w:World) (T:Nat) (A:Option Addr) (n c:Nat) (X:Nat→Nat) (b g e h:Nat):Prop where
 head:Lies w g 176 [.slice A n c,.slice (some ⟨e,0,none⟩) n n,.slice (some ⟨h,0,none⟩) (b+1) (b+1)]
 t:Its w T A n (xi X)
 less:Lies w e 4 (blcells (up X n) n)
 heads:Lies w h 3 (icells (hdI X n) (b+1))
 lt:g < T∧e < T∧h < T
 small:0 < n∧n≤4194304∧b≤4194304∧n≤c∧c≤maxLen
 right:∀p,p < n→X p < b
section
variable {w w':World} {T n c b g e h:Nat} {A:Option Addr} {X:Nat→Nat}
theorem Rw.below {T':Nat} (r:Rw w T A n c X b g e h) (hb:Below T' w w') (hT:T≤T'):Rw w' T A n c X b g e h:=
 ⟨r.head.below hb (by have:=r.lt;omega),fun k hk=>(r.t.below (hb.mono hT)) k hk,r.less.below hb (by have:=r.lt;omega),r.heads.below hb (by have:=r.lt;omega),r.lt,r.small,r.right⟩
theorem Rw.c0 (r:Rw w T A n c X b g e h):w.cell? ⟨g,0,none⟩=some (.slice A n c):=r.head.cell 0
theorem Rw.c1 (r:Rw w T A n c X b g e h):w.cell? ⟨g,1,none⟩=some (.slice (some ⟨e,0,none⟩) n n):=r.head.cell 1
theorem Rw.c2 (r:Rw w T A n c X b g e h):w.cell? ⟨g,2,none⟩=some (.slice (some ⟨h,0,none⟩) (b+1) (b+1)):=r.head.cell 2
theorem Rw.up_ (r:Rw w T A n c X b g e h) {p:Nat} (hp:p < n):w.cell? ⟨e,p,none⟩=some (.bool (up X n p)):=by
 rw [r.less.cell]
 exact blcells_at _ _ _ hp
theorem Rw.hd_ (r:Rw w T A n c X b g e h) {x:Nat} (hx:x≤b):w.cell? ⟨h,x,none⟩=some (.int .i64 ((hd X n x:Nat):Int)):=by
 rw [r.heads.cell]
 exact icells_at _ _ _ (by omega)
theorem isDip_any (r:Rw w T A n c X b g e h) {p:Nat} (hp:p < n):Calls Tryz.prog 116 #[.pointer (some ⟨g,0,none⟩),.int .i64 (p:Int)] w fun e' w'=>e'=.returned (.bool (dip X n p))∧w=w':=by
 have c1:=r.c1
 have hn:=r.small.2.1
 rcases Nat.eq_zero_or_pos p with rfl | h0
 · have hd:dip X n 0=false:=rfl
   rw [hd]
   clear r
   go_enter Tryz.func116,Tryz.ntmps116
   go_wp2_with fail
   go_ret
   exact ⟨rfl,rfl⟩
 · have u1:=r.up_ hp
   have u2:=r.up_ (p:=p - 1) (by omega)
   have hd:dip X n p=(up X n p&&!up X n (p - 1)):=by unfold dip;rw [decide_eq_true h0];rfl
   rw [hd]
   obtain ⟨q,rfl⟩:∃q,p=q+1:=⟨p - 1,by omega⟩
   rw [Nat.add_sub_cancel] at u2 ⊢
   have hw:IntKind.i64.wrap (((q+1:Nat):Int) - 1)=(q:Int):=by rw [IntWalk.i64_in _ (by omega)];omega
   generalize up X n (q+1)=a1 at u1 ⊢
   generalize up X n q=a2 at u2 ⊢
   obtain ⟨m,hm⟩:∃m,q+1=m:=⟨_,rfl⟩
   rw [hm] at hw u1 hp ⊢
   have d0:(0:Int) < (m:Int):=by omega
   have hq:q < n:=by omega
   clear r hd h0 hm
   go_enter Tryz.func116,Tryz.ntmps116
   cases a1
   · go_wp2_with fail
     go_ret
     exact ⟨rfl,rfl⟩
   · go_wp2_with fail
     go_ret
     exact ⟨rfl,rfl⟩
end
theorem sufFit_is (A:Option Addr) (n c:Nat) (V:Nat→Int) (al:Int) (B:Nat) (w:World) (hn:n≤maxLen) (ho:Its w B A n V) (r:Bool) (hr:r=true↔RightS V n al):
    Calls Tryz.prog 48 #[.slice A n c,.int .i64 al] w fun e w'=>e=.returned (.bool r)∧w=w':=by
 have HR:=Lib.hid hr
 have HO:=Lib.hid ho
 have hnl:n≤9223372036854775807:=by unfold maxLen at hn;omega
 clear ho hn hr
 by_cases hal:0≤al∧al≤4194304∧n≤4194304
 · obtain ⟨h1,h2,h3⟩:=hal
   have d1:decide (al < 0)=false:=decide_eq_false (by omega)
   have d2:decide ((4194304:Int) < al)=false:=decide_eq_false (by omega)
   have d3:decide ((4194304:Int) < (n:Int))=false:=decide_eq_false (by omega)
   go_enter Tryz.func48,Tryz.ntmps48
   go_wp2_with fail
   go_loop [20] (fun v=>∃i:Nat,i≤n∧v=.int .i64 (i:Int)∧Hid (∀j,j < i→0≤V j∧V j < al)) (fun v=>n - (intOf v).toNat)
   case atStart=>exact ⟨0,Nat.zero_le _,rfl,Lib.hid (fun j hj=>absurd hj (Nat.not_lt_zero j))⟩
   case round=>
    obtain ⟨i,hi,rfl,hall⟩:=hrel
    by_cases hlt:i < n
    · have hlti:(i:Int) < (n:Int):=by omega
      obtain ⟨ad,rfl,_,hc,hv1,hv2⟩:=HO.out i hlt
      obtain ⟨v,hv⟩:∃v,V i=v:=⟨_,rfl⟩
      rw [hv] at hc hv1 hv2
      have HV:=Lib.hid hv
      clear hv
      by_cases hok:0≤v∧v < al
      · have e1:decide (v < 0)=false:=decide_eq_false (by omega)
        have e2:decide (al≤v)=false:=decide_eq_false (by omega)
        go_wp2_with fail
        go_round
        case rel=>exact ⟨i+1,by omega,by go_num,Lib.hid (fun j hj=>by
         by_cases e:j < i
         · exact hall.out j e
         · obtain rfl:j=i:=by omega
           rw [HV.out]
           exact hok)⟩
        case measure=>simp [intOf];omega
      · have hbad:Hid (¬RightS V n al):=Lib.hid (fun h=>hok (by rw [←HV.out];exact h.2 i hlt))
        have hcond:decide (v < 0)=true∨(decide (v < 0)=false∧decide (al≤v)=true):=by
         by_cases h0:v < 0
         · exact .inl (decide_eq_true h0)
         · exact .inr ⟨decide_eq_false h0,decide_eq_true (by omega)⟩
        obtain rfl:r=false:=by
         rcases r with _ | _
         · rfl
         · exact absurd (HR.out.1 rfl) hbad.out
        clear hok HR
        rcases hcond with e1 | ⟨e1,e2⟩
        all_goals
         go_wp2_with fail
         go_ret
         exact ⟨rfl,rfl⟩
    · obtain rfl:i=n:=by omega
      obtain rfl:r=true:=HR.out.2 ⟨⟨h1,h2,h3⟩,hall.out⟩
      go_wp2_with fail
      go_ret
      exact ⟨rfl,rfl⟩
 · have hbad:Hid (¬RightS V n al):=Lib.hid (fun h=>hal h.1)
   have hcond:decide (al < 0)=true∨(decide (al < 0)=false∧decide ((4194304:Int) < al)=true)∨(decide (al < 0)=false∧decide ((4194304:Int) < al)=false∧decide ((4194304:Int) < (n:Int))=true):=by
    by_cases h0:al < 0
    · exact .inl (decide_eq_true h0)
    · by_cases h1:(4194304:Int) < al
      · exact .inr (.inl ⟨decide_eq_false h0,decide_eq_true h1⟩)
      · exact .inr (.inr ⟨decide_eq_false h0,decide_eq_false h1,decide_eq_true (by omega)⟩)
   obtain rfl:r=false:=by
    rcases r with _ | _
    · rfl
    · exact absurd (HR.out.1 rfl) hbad.out
   clear hal HR
   rcases hcond with d1 | ⟨d1,d2⟩ | ⟨d1,d2,d3⟩
   all_goals
    go_enter Tryz.func48,Tryz.ntmps48
    go_wp2_with fail
    go_ret
    exact ⟨rfl,rfl⟩
def Picks (f:Nat→Bool) (s:Nat→Nat) (i:Nat) (U:Nat→Int):Prop:=∀j,j < i→f j=true→U (Pl.cnt f j)=((s j:Nat):Int)
theorem Picks.skip {f:Nat→Bool} {s:Nat→Nat} {i:Nat} {U:Nat→Int} (h:Picks f s i U) (hf:f i=false):Picks f s (i+1) U:=fun j hj hfj=>by
 by_cases e:j=i
 · subst e
   rw [hf] at hfj
   cases hfj
 · exact h j (by omega) hfj
theorem Picks.take {f:Nat→Bool} {s:Nat→Nat} {i:Nat} {U:Nat→Int} (h:Picks f s i U):Picks f s (i+1) (putI U (Pl.cnt f i) ((s i:Nat):Int)):=fun j hj hfj=>by
 by_cases e:j=i
 · subst e
   exact putI_at _ _ _
 · have:=Pl.cnt_at_lt (f:=f) (show j < i by omega) hfj
   rw [putI_off _ (by omega)]
   exact h j (by omega) hfj
theorem icells_putI (U:Nat→Int) (n:Nat) (x:Int):icells U n++[.int .i64 x]=icells (putI U n x) (n+1):=by
 rw [icells_snoc,putI_at]
 congr 1
 exact icells_congr fun j hj=>(putI_off _ (by omega)).symm
theorem cnt_true {f:Nat→Bool} {i:Nat} (h:f i=true):Pl.cnt f (i+1)=Pl.cnt f i+1:=by rw [Pl.cnt_succ,if_pos h]
theorem cnt_false {f:Nat→Bool} {i:Nat} (h:f i=false):Pl.cnt f (i+1)=Pl.cnt f i:=by rw [Pl.cnt_succ,h];rfl
section
variable {w:World} {T n c b g e h:Nat} {A:Option Addr} {X:Nat→Nat}
theorem dips_any (r:Rw w T A n c X b g e h) (hT:T≤w.heap.size):Calls Tryz.prog 73 #[.pointer (some ⟨g,0,none⟩)] w fun e' w'=>∃(v:Value) (U:Nat→Int),e'=.returned v∧Picks (dip X n) (fun p=>p) n U∧
    w'.ownsRow w.heap.size 3 1 v (Pl.cnt (dip X n) n) (icells U (Pl.cnt (dip X n) n))∧Below w.heap.size w w':=by
 have hn:=r.small.2.1
 have HR:=Lib.hid r
 have c0:=r.c0
 obtain ⟨B,hB⟩:∃B,w.heap.size=B:=⟨_,rfl⟩
 rw [hB] at hT ⊢
 clear r
 go_enter Tryz.func73,Tryz.ntmps73
 go_wp2_with fail
 go_loopw [3,10] (fun s v wr=>∃i:Nat,i≤n∧v=.int .i64 (i:Int)∧Hid (∃U,Picks (dip X n) (fun p=>p) i U∧wr.ownsRow B 3 1 s (Pl.cnt (dip X n) i) (icells U (Pl.cnt (dip X n) i)))∧Below B w wr) (fun _ v _=>n - (intOf v).toNat)
 case atStart=>exact ⟨0,Nat.zero_le _,rfl,Lib.hid ⟨fun _=>0,fun j hj=>absurd hj (Nat.not_lt_zero j),World.ownsRow_nil _ _ _ _⟩,Below.refl _ _⟩
 case round=>
  obtain ⟨i,hi,rfl,hrow,hb⟩:=hrel
  have hbs:=hb.size
  by_cases hlt:i < n
  · have hlti:(i:Int) < (n:Int):=by omega
    have hD:=isDip_any (HR.out.below hb hT) hlt
    have hm:=cnt_to (dip X n) i
    obtain ⟨U,hU,hown⟩:=hrow.out
    have HU:=Lib.hid hU
    have HO:=Lib.hid hown
    obtain ⟨m,hmm⟩:∃m,Pl.cnt (dip X n) i=m:=⟨_,rfl⟩
    rw [hmm] at HO hm
    have HM:=Lib.hid hmm
    have hBs:B≤wr.heap.size:=by omega
    have hm4:m≤4194304:=by omega
    cases hdp:dip X n i
    · rw [hdp] at hD
      have HDp:=Lib.hid hdp
      clear hU hown hmm hrow hdp
      go_wp2_with (go_at_call 116;(with_reducible refine hD.mono ?_);rintro e w' ⟨rfl,rfl⟩)
      go_roundw
      case rel=>exact ⟨i+1,by omega,by go_num,Lib.hid ⟨U,HU.out.skip HDp.out,by rw [cnt_false HDp.out,HM.out];exact HO.out⟩,hb⟩
      case measure=>simp [intOf];omega
    · rw [hdp] at hD
      have HDp:=Lib.hid hdp
      clear hU hown hmm hrow hdp
      go_wp2_with (first
       | (go_at_call 116;(with_reducible refine hD.mono ?_);rintro e w' ⟨rfl,rfl⟩)
       | (at_builtin;refine step_append_int rfl (.tmp 16) (.tmp 18) rfl rfl HO.out (i:Int) rfl hBs hm4 ?_;intro v3 w3 hown3 hb3))
      go_roundw
      case rel=>exact ⟨i+1,by omega,by go_num,Lib.hid ⟨_,HU.out.take,by
       rw [cnt_true HDp.out,HM.out,←icells_putI]
       exact hown3.out⟩,hb.trans hb3⟩
      case measure=>simp [intOf];omega
  · obtain rfl:i=n:=by omega
    obtain ⟨U,hU,hown⟩:=hrow.out
    go_wp2_with fail
    go_ret
    exact ⟨_,U,rfl,hU,hown,hb⟩
end
end Go.Proofs.YtcidobpbepeakaaGreat
namespace Go.Proofs.YtcidobpbepeakaaGreat
open Go.RowKit
theorem Its.cut_ {w:World} {B n o m:Nat} {ad:Addr} {V:Nat→Int} (h:Its w B (some ad) n V) (ho:o+m≤n):Its w B (some (ad.add o)) m (fun j=>V (o+j)):=fun j hj=>by
 obtain ⟨ad',e,h1,h2,h3⟩:=h (o+j) (by omega)
 cases e
 refine ⟨_,rfl,by rw [add_block];exact h1,?_,h3⟩
 rw [Addr.add_add]
 exact h2
theorem equal_any (A A':Option Addr) (n m c c':Nat) (V V':Nat→Int) (B:Nat) (w:World) (hn:n≤4194304) (ho:Its w B A n V) (ho':Its w B A' m V') (r:Bool) (hr:r=true↔(n=m∧∀i,i < n→V i=V' i)):
    Calls Tryz.prog 126 #[.slice A n c,.slice A' m c'] w fun e w'=>e=.returned (.bool r)∧∃j,w'=w.drewN j:=by
 have HO:=Lib.hid ho
 have HO':=Lib.hid ho'
 have HR:=Lib.hid hr
 clear ho ho' hr
 by_cases hnm:n=m
 · subst hnm
   go_enter Tryz.func126,Tryz.ntmps126
   go_wp2_with fail
   go_loopw [13] (fun v wr=>∃i q:Nat,i≤n∧v=.int .i64 (i:Int)∧wr=w.drewN q∧Hid (∀j,j < i→V j=V' j)) (fun v _=>n - (intOf v).toNat)
   case atStart=>exact ⟨0,0,Nat.zero_le _,rfl,rfl,Lib.hid fun j hj=>absurd hj (Nat.not_lt_zero j)⟩
   case round=>
    obtain ⟨i,q,hi,rfl,rfl,hall⟩:=hrel
    by_cases hlt:i < n
    · have hlti:(i:Int) < (n:Int):=by omega
      obtain ⟨ad,rfl,_,hc0,_⟩:=HO.out i hlt
      obtain ⟨ad',rfl,_,hc0',_⟩:=HO'.out i hlt
      have hc:∀t,(w.drewN t).cell? (ad.add i)=some (.int .i64 (V i)):=fun _=>hc0
      have hc':∀t,(w.drewN t).cell? (ad'.add i)=some (.int .i64 (V' i)):=fun _=>hc0'
      clear hc0 hc0'
      by_cases he:V i=V' i
      · have HE:=Lib.hid he
        rw [he] at hc
        clear he
        go_wp2_with fail
        go_quiet (fail)
        go_wp2_with fail
        go_roundw
        case rel=>exact ⟨i+1,_,by omega,by go_num,rfl,Lib.hid fun j hj=>by
         by_cases e:j < i
         · exact hall.out j e
         · obtain rfl:j=i:=by omega
           exact HE.out⟩
        case measure=>simp [intOf];omega
      · have hne:(V i != V' i)=true:=by rw [bne_iff_ne];exact he
        have hne2:¬V i=V' i:=he
        have HNe:=Lib.hid he
        obtain rfl:r=false:=by
         rcases r with _ | _
         · rfl
         · exact absurd ((HR.out.1 rfl).2 i hlt) he
        generalize V i=v1 at*
        generalize V' i=v2 at*
        go_wp2_with fail
        go_quiet (fail)
        go_wp2_with fail
        go_ret
        exact ⟨rfl,_,World.drewN_drewN _ _ _⟩
    · obtain rfl:i=n:=by omega
      obtain rfl:r=true:=HR.out.2 ⟨by trivial,hall.out⟩
      go_wp2_with fail
      go_ret
      exact ⟨rfl,q,rfl⟩
 · obtain rfl:r=false:=by
    rcases r with _ | _
    · rfl
    · exact absurd (HR.out.1 rfl).1 hnm
   have hne:((n:Int) != (m:Int))=true:=by rw [bne_iff_ne];omega
   have hne2:¬(n:Int)=(m:Int):=by omega
   go_enter Tryz.func126,Tryz.ntmps126
   go_wp2_with fail
   go_ret
   exact ⟨rfl,0,rfl⟩
end Go.Proofs.YtcidobpbepeakaaGreat
namespace Go.Proofs.YtcidobpbepeakaaGreat
open Go.RowKit
theorem xi_at {X:Nat→Nat} {p q:Nat} (h:X p=X q):xi X p=xi X q:=xi_eq h
section
variable {w:World} {T n c b g e h:Nat} {A:Option Addr} {X:Nat→Nat}
theorem alike_any (r:Rw w T A n c X b g e h) {m:Nat} {d:Nat→Nat} (hd:DipsUp X n m d) (B:Nat) (P:Option Addr) (cp:Nat) (hP:Its w B P m (fun k=>((d k:Nat):Int))) {k l:Nat} (hk:k < m) (hl:l < m):
    Calls Tryz.prog 120 #[.pointer (some ⟨g,0,none⟩),.slice P m cp,.int .i64 (k:Int),.int .i64 (l:Int)] w fun e' w'=>e'=.returned (.bool (decide (Alike X m d k l)))∧∃j,w'=w.drewN j:=by
 have hn:=r.small.2.1
 have hmn:m≤n:=by
  have:=pigeon n m (fun _=>true) d (fun i hi=>⟨(hd.is i hi).1,rfl⟩) hd.inj
  exact Nat.le_trans this (cnt_to _ _)
 have hw:IntKind.i64.wrap ((m:Int) - 1)=((m - 1:Nat):Int):=by rw [IntWalk.i64_in _ (by omega)];omega
 by_cases hlast:k=m - 1∨l=m - 1
 · have hD:decide (Alike X m d k l)=false:=decide_eq_false fun ha=>by
    have:=ha.1
    have:=ha.2.1
    omega
   rw [hD]
   obtain ⟨m1,hm1⟩:∃m1,m - 1=m1:=⟨_,rfl⟩
   rw [hm1] at hw hlast
   clear hD r hd hP
   by_cases hk1:k=m1
   · subst hk1
     go_enter Tryz.func120,Tryz.ntmps120
     go_wp2_with fail
     go_ret
     exact ⟨rfl,0,rfl⟩
   · obtain rfl:l=m1:=by omega
     have e1:((k:Int)==(l:Int))=false:=by rw [beq_eq_false_iff_ne];omega
     have e2:¬(k:Int)=(l:Int):=by omega
     go_enter Tryz.func120,Tryz.ntmps120
     go_wp2_with fail
     go_ret
     exact ⟨rfl,0,rfl⟩
 · have hk1:k+1 < m:=by omega
   have hl1:l+1 < m:=by omega
   have m1:=hd.mono k (k+1) (by omega) hk1
   have m2:=hd.mono l (l+1) (by omega) hl1
   have n1:=(hd.is (k+1) hk1).1
   have n2:=(hd.is (l+1) hl1).1
   obtain ⟨ad,rfl,_⟩:=r.t 0 r.small.1
   have c0:=r.c0
   have hcap:=r.small.2.2.2.1
   have hcm:=r.small.2.2.2.2
   obtain ⟨pd,rfl,_⟩:=hP k hk
   have dk:w.cell? (pd.add k)=some (.int .i64 ((d k:Nat):Int)):=by
    obtain ⟨p,ep,_,hc,_⟩:=hP k hk
    cases ep
    exact hc
   have dk1:w.cell? (pd.add (k+1))=some (.int .i64 ((d (k+1):Nat):Int)):=by
    obtain ⟨p,ep,_,hc,_⟩:=hP (k+1) hk1
    cases ep
    exact hc
   have dl:w.cell? (pd.add l)=some (.int .i64 ((d l:Nat):Int)):=by
    obtain ⟨p,ep,_,hc,_⟩:=hP l hl
    cases ep
    exact hc
   have dl1:w.cell? (pd.add (l+1))=some (.int .i64 ((d (l+1):Nat):Int)):=by
    obtain ⟨p,ep,_,hc,_⟩:=hP (l+1) hl1
    cases ep
    exact hc
   have hE:=fun q=>equal_any (some (ad.add (d k))) (some (ad.add (d l))) (d (k+1)+1 - d k) (d (l+1)+1 - d l) (c - d k) (c - d l) (fun j=>xi X (d k+j)) (fun j=>xi X (d l+j)) T (w.drewN q) (by omega)
    (Its.cut_ (n:=n) (fun k hk=>r.t k hk) (by omega)) (Its.cut_ (n:=n) (fun k hk=>r.t k hk) (by omega)) (decide (Alike X m d k l)) (by
      rw [decide_eq_true_iff]
      constructor
      · intro ha
        have:=ha.2.2.1
        refine ⟨by omega,fun i hi=>xi_at (ha.2.2.2 i (by omega))⟩
      · rintro ⟨e1,e2⟩
        refine ⟨hk1,hl1,by omega,fun i hi=>?_⟩
        have h2:((X (d k+i):Nat):Int)=((X (d l+i):Nat):Int):=e2 i (by omega)
        omega)
   generalize decide (Alike X m d k l)=res at hE ⊢
   obtain ⟨x0,hx0⟩:∃x0,d k=x0:=⟨_,rfl⟩
   obtain ⟨x1,hx1⟩:∃x1,d (k+1)=x1:=⟨_,rfl⟩
   obtain ⟨y0,hy0⟩:∃y0,d l=y0:=⟨_,rfl⟩
   obtain ⟨y1,hy1⟩:∃y1,d (l+1)=y1:=⟨_,rfl⟩
   obtain ⟨k1,hke⟩:∃k1,k+1=k1:=⟨_,rfl⟩
   obtain ⟨l1,hle⟩:∃l1,l+1=l1:=⟨_,rfl⟩
   rw [hx0,hx1,hy0,hy1] at hE
   rw [hx0] at dk m1
   rw [hx1] at dk1 m1 n1
   rw [hy0] at dl m2
   rw [hy1] at dl1 m2 n2
   rw [hke] at dk1
   rw [hle] at dl1
   obtain ⟨x2,hx2⟩:∃x2,x1+1=x2:=⟨_,rfl⟩
   obtain ⟨y2,hy2⟩:∃y2,y1+1=y2:=⟨_,rfl⟩
   rw [hx2,hy2] at hE
   have w1:IntKind.i64.wrap ((k:Int)+1)=(k1:Int):=by rw [IntWalk.i64_in _ (by omega)];omega
   have w2:IntKind.i64.wrap ((l:Int)+1)=(l1:Int):=by rw [IntWalk.i64_in _ (by omega)];omega
   have w3:IntKind.i64.wrap ((x1:Int)+1)=(x2:Int):=by rw [IntWalk.i64_in _ (by omega)];omega
   have w4:IntKind.i64.wrap ((y1:Int)+1)=(y2:Int):=by rw [IntWalk.i64_in _ (by omega)];omega
   have b1:(k:Int) < (m:Int):=by omega
   have b2:(k1:Int) < (m:Int):=by omega
   have b3:(l:Int) < (m:Int):=by omega
   have b4:(l1:Int) < (m:Int):=by omega
   have b5:(x0:Int)≤(x2:Int):=by omega
   have b6:(y0:Int)≤(y2:Int):=by omega
   have b7:(x2:Int)≤(c:Int):=by omega
   have b8:(y2:Int)≤(c:Int):=by omega
   have b9:c≠x0:=by omega
   have b10:c≠y0:=by omega
   have e1:((k:Int)==((m - 1:Nat):Int))=false:=by rw [beq_eq_false_iff_ne];omega
   have e2:((l:Int)==((m - 1:Nat):Int))=false:=by rw [beq_eq_false_iff_ne];omega
   have e3:¬(k:Int)=((m - 1:Nat):Int):=by omega
   have e4:¬(l:Int)=((m - 1:Nat):Int):=by omega
   have HE:∀q,Hid (Calls Tryz.prog 126 #[.slice (some (ad.add x0)) (x2 - x0) (c - x0),.slice (some (ad.add y0)) (y2 - y0) (c - y0)] (w.drewN q) fun e w'=>e=.returned (.bool res)∧∃j,w'=w.drewN j):=
    fun q=>Lib.hid ((hE q).mono fun _ _ hh=>by
     obtain ⟨h1,j,h2⟩:=hh
     exact ⟨h1,q+j,h2.trans (World.drewN_drewN _ _ _)⟩)
   obtain ⟨m0,hm0⟩:∃m0,m - 1=m0:=⟨_,rfl⟩
   rw [hm0] at e1 e2 e3 e4 hw
   have c0':∀t,(w.drewN t).cell? ⟨g,0,none⟩=some (.slice (some ad) n c):=fun _=>c0
   have dk':∀t,(w.drewN t).cell? (pd.add k)=some (.int .i64 (x0:Int)):=fun _=>dk
   have dk1':∀t,(w.drewN t).cell? (pd.add k1)=some (.int .i64 (x1:Int)):=fun _=>dk1
   have dl':∀t,(w.drewN t).cell? (pd.add l)=some (.int .i64 (y0:Int)):=fun _=>dl
   have dl1':∀t,(w.drewN t).cell? (pd.add l1)=some (.int .i64 (y1:Int)):=fun _=>dl1
   clear c0 dk dk1 dl dl1
   clear hE r hd hP hx0 hx1 hy0 hy1 hke hle hx2 hy2 hm0 hlast
   go_enter Tryz.func120,Tryz.ntmps120
   go_wp2_with fail
   go_quiet ((go_at_call 126;with_reducible exact (HE _).out))
   go_wp2_with fail
   go_ret
   exact ⟨rfl,_,rfl⟩
def NamedPost (w:World) (X:Nat→Nat) (m:Nat) (d σ:Nat→Nat) (e':Ending) (w':World):Prop:=
 ∃(g1:Nat) (Y:Nat→Nat),e'=.returned (.tuple #[.slice (some ⟨g1,0,none⟩) m m,.int .i64 ((unl X m d σ m:Nat):Int)])∧Names X m d σ Y∧w'.ownsRow w.heap.size 3 1 (.slice (some ⟨g1,0,none⟩) m m) m (icells (xi Y) m)∧Below w.heap.size w w'
theorem named_any (r:Rw w T A n c X b g e h) (hT:T≤w.heap.size) {m:Nat} {d σ:Nat→Nat} (hO:DipOrd X n m d σ) (P Qs:Option Addr) (cp cq:Nat) (hP:Its w w.heap.size P m (fun k=>((d k:Nat):Int))) (hQ:Its w w.heap.size Qs m (fun j=>((d (σ j):Nat):Int))):
    Calls Tryz.prog 76 #[.pointer (some ⟨g,0,none⟩),.slice P m cp,.slice Qs m cq] w (NamedPost w X m d σ):=by
 have hd:=hO.dips
 have hn:=r.small.2.1
 have hmn:m≤n:=by
  have:=pigeon n m (fun _=>true) d (fun i hi=>⟨(hd.is i hi).1,rfl⟩) hd.inj
  exact Nat.le_trans this (cnt_to _ _)
 have c0:=r.c0
 have HR:=Lib.hid r
 have HO:=Lib.hid hO
 unfold NamedPost
 obtain ⟨B,hB⟩:∃B,w.heap.size=B:=⟨_,rfl⟩
 rw [hB] at hT hP hQ ⊢
 have HP:=Lib.hid hP
 have HQ:=Lib.hid hQ
 have hMk:=make_ints0 w n hn
 rw [hB] at hMk
 obtain ⟨w1,hw1⟩:∃w1,w.alloc (.cells (icells (fun _=>0) n).toArray 3)=w1:=⟨_,rfl⟩
 have z1:w1.heap.size=B+1:=by rw [←hw1,size_alloc,hB]
 have k1:Below B w w1:=by rw [←hw1,←hB];exact (Below.refl _ _).alloc (Nat.le_refl _) _
 have l1:Lies w1 B 3 (icells (fun _=>0) n):=by rw [←hw1,←hB];exact lies_new w _ _
 rw [hw1] at hMk
 clear r hO hP hQ hd hw1
 go_enter Tryz.func76,Tryz.ntmps76
 go_wp2_with fail
 go_loopw [23] (fun s wr=>∃k:Nat,k≤m∧s=.int .i64 (k:Int)∧Hid (∃U,Lies wr B 3 (icells U n)∧∀j,j < k→U (d j)=((j:Nat):Int))∧Below B w wr∧wr.heap.size=B+1) (fun s _=>m - (intOf s).toNat)
 case atStart=>exact ⟨0,Nat.zero_le _,rfl,Lib.hid ⟨_,l1,fun j hj=>absurd hj (Nat.not_lt_zero j)⟩,k1,z1⟩
 case round=>
  clear l1 k1 z1 hMk
  obtain ⟨k,hk,rfl,hU,hb,hz⟩:=hrel
  by_cases hlt:k < m
  · have hltk:(k:Int) < (m:Int):=by omega
    obtain ⟨U,hL,hj⟩:=hU.out
    obtain ⟨ad,rfl,_,hc0,_⟩:=HP.out.below hb k hlt
    have hc:wr.cell? (ad.add k)=some (.int .i64 ((d k:Nat):Int)):=hc0
    clear hc0
    have hdn:=(HO.out.dips.is k hlt).1
    have hcell:wr.cell? ⟨B,d k,none⟩=some (.int .i64 (U (d k))):=by
     rw [hL.cell]
     exact icells_at _ _ _ hdn
    have hfree:=hL.free (d k)
    have HL2:Hid (∃U',Lies (wr.setCell ⟨B,d k,none⟩ (.int .i64 (k:Int))) B 3 (icells U' n)∧∀j,j < k+1→U' (d j)=((j:Nat):Int)):=Lib.hid ⟨putI U (d k) (k:Int),by
     have:=hL.put (d k) (.int .i64 (k:Int))
     rw [icells_put] at this
     exact this,fun j hjk=>by
     by_cases e:j=k
     · rw [e,putI_at]
     · rw [putI_off _ (fun e'=>e (HO.out.dips.inj j k (by omega) hlt e'))]
       exact hj j (by omega)⟩
    have HB2:Below B w (wr.setCell ⟨B,d k,none⟩ (.int .i64 (k:Int))):=hb.setCell (p:=⟨B,d k,none⟩) (Nat.le_refl _) _
    have hz2:(wr.setCell ⟨B,d k,none⟩ (.int .i64 (k:Int))).heap.size=B+1:=by simp [World.setCell];exact hz
    have hdi:((d k:Nat):Int) < (n:Int):=by omega
    generalize d k=dk at hc hcell hfree HL2 HB2 hdi hz2
    generalize U dk=uk at hcell
    clear hL hj hU hdn
    go_wp2_with fail
    go_roundw
    case rel=>exact ⟨k+1,by omega,by go_num,HL2,HB2,hz2⟩
    case measure=>simp [intOf];omega
  · have hkm:k=m:=by omega
    have hge:¬(k:Int) < (m:Int):=by omega
    rw [hkm] at hU
    clear hkm
    have hMk:=make_ints0 wr m (by omega)
    rw [hz] at hMk
    obtain ⟨w2,hw2⟩:∃w2,wr.alloc (.cells (icells (fun _=>0) m).toArray 3)=w2:=⟨_,rfl⟩
    have k2:Below (B+1) wr w2:=by rw [←hw2,←hz];exact (Below.refl _ _).alloc (Nat.le_refl _) _
    have l2:Lies w2 (B+1) 3 (icells (fun _=>0) m):=by rw [←hw2,←hz];exact lies_new wr _ _
    rw [hw2] at hMk
    obtain ⟨U,hL0,hj⟩:=hU.out
    have hL:=hL0.below k2 (by omega)
    have HJ:=Lib.hid hj
    have hb2:Below B w w2:=hb.trans (k2.mono (by omega))
    have z2:w2.heap.size=B+2:=by rw [←hw2,size_alloc,hz]
    clear hw2 hL0 hj hU hb hz
    go_wp2_with fail
    go_loopw [12,38] (fun su s wq=>∃i:Nat,i≤m∧s=.int .i64 (i:Int)∧su=.int .i64 ((unl X m d σ i:Nat):Int)∧Hid (∃Yc,Lies wq (B+1) 3 (icells Yc m)∧∀j,j < i→Yc (σ j)=((unl X m d σ (j+1) - 1:Nat):Int))∧Hid (Lies wq B 3 (icells U n))∧Below B w wq∧wq.heap.size=B+2) (fun _ s _=>m - (intOf s).toNat)
    case atStart=>exact ⟨0,Nat.zero_le _,rfl,rfl,Lib.hid ⟨_,l2,fun j hj=>absurd hj (Nat.not_lt_zero j)⟩,Lib.hid hL,hb2,z2⟩
    case round=>
     clear l2 hL hb2 z2 hMk k2
     rename World=>wq
     obtain ⟨i,hi,rfl,rfl,hY,hLq,hbq,hzq⟩:=hrel
     by_cases hlt2:i < m
     · have hlti:(i:Int) < (m:Int):=by omega
       obtain ⟨Yc,hLY,hYj⟩:=hY.out
       have hσ:=HO.out.lt i hlt2
       have hdi:=(HO.out.dips.is (σ i) hσ).1
       obtain ⟨qd,rfl,_,hc0,_⟩:=HQ.out.below hbq i hlt2
       have hcp:wq.cell? (qd.add i)=some (.int .i64 ((d (σ i):Nat):Int)):=hc0
       have hc:∀t,(wq.drewN t).cell? (qd.add i)=some (.int .i64 ((d (σ i):Nat):Int)):=fun _=>hc0
       clear hc0
       have hat:∀t,(wq.drewN t).cell? ⟨B,d (σ i),none⟩=some (.int .i64 ((σ i:Nat):Int)):=fun t=>by
        have:=hLq.out.cell (d (σ i))
        rw [icells_at _ _ _ hdi,HJ.out (σ i) hσ] at this
        exact this
       have hdn:((d (σ i):Nat):Int) < (n:Int):=by omega
       have hσi:((σ i:Nat):Int) < (m:Int):=by omega
       have hcell:∀t,(wq.drewN t).cell? ⟨B+1,σ i,none⟩=some (.int .i64 (Yc (σ i))):=fun t=>by
        have:=hLY.cell (σ i)
        rw [icells_at _ _ _ hσ] at this
        exact this
       have hfree:∀t,(wq.drewN t).frozen? ⟨B+1,σ i,none⟩=false:=fun t=>hLY.free (σ i)
       have hup:=unl_pos (X:=X) (m:=m) (d:=d) (σ:=σ) (show 0 < i+1 by omega)
       have hto:=unl_to (X:=X) (m:=m) (d:=d) (σ:=σ) (i+1)
       have hto0:=unl_to (X:=X) (m:=m) (d:=d) (σ:=σ) i
       obtain ⟨u,hu⟩:∃u,unl X m d σ i=u:=⟨_,rfl⟩
       obtain ⟨u1,hu1⟩:∃u1,unl X m d σ (i+1)=u1:=⟨_,rfl⟩
       have e0:unl X m d σ (i+1)=unl X m d σ i+(if i=0∨¬Alike X m d (σ (i - 1)) (σ i) then 1 else 0):=rfl
       rw [hu] at e0 hto0
       rw [hu1] at e0 hup hto
       obtain ⟨y1,hy1⟩:∃y1,u1 - 1=y1:=⟨_,rfl⟩
       have hwy:IntKind.i64.wrap ((u1:Int) - 1)=(y1:Int):=by rw [IntWalk.i64_in _ (by omega)];omega
       have HY2:∀t,Hid (∃Yc',Lies ((wq.drewN t).setCell ⟨B+1,σ i,none⟩ (.int .i64 (y1:Int))) (B+1) 3 (icells Yc' m)∧∀j,j < i+1→Yc' (σ j)=((unl X m d σ (j+1) - 1:Nat):Int)):=fun t=>Lib.hid ⟨putI Yc (σ i) (y1:Int),by
        have:=(hLY.drewN t).put (σ i) (.int .i64 (y1:Int))
        rw [icells_put] at this
        exact this,fun j hji=>by
        by_cases e:j=i
        · rw [e,putI_at,hu1,hy1]
        · rw [putI_off _ (fun e'=>e (HO.out.inj j i (by omega) hlt2 e'))]
          exact hYj j (by omega)⟩
       have HL2:∀t,Hid (Lies ((wq.drewN t).setCell ⟨B+1,σ i,none⟩ (.int .i64 (y1:Int))) B 3 (icells U n)):=fun t=>Lib.hid ((hLq.out.drewN t).far (p:=⟨B+1,σ i,none⟩) (by show B≠B+1;omega) _)
       have HB2:∀t,Below B w ((wq.drewN t).setCell ⟨B+1,σ i,none⟩ (.int .i64 (y1:Int))):=fun t=>(below_drewN' hbq t).setCell (p:=⟨B+1,σ i,none⟩) (by show B≤B+1;omega) _
       have hz2:∀t,((wq.drewN t).setCell ⟨B+1,σ i,none⟩ (.int .i64 (y1:Int))).heap.size=B+2:=fun t=>by simp [World.setCell];exact hzq
       rcases Nat.eq_zero_or_pos i with h0 | h0
       · subst h0
         rw [if_pos (.inl rfl)] at e0
         have hu0:u=0:=hu.symm
         subst hu0
         obtain rfl:u1=1:=by omega
         obtain rfl:y1=0:=by omega
         rw [addr_add0] at hcp
         have hc':∀t,(wq.drewN t).cell? qd=some (.int .i64 ((d (σ 0):Nat):Int)):=fun t=>by
          have:=hc t
          rw [addr_add0] at this
          exact this
         have HU1:=Lib.hid hu1
         rw [hu]
         clear hup hto hto0 e0 hu hu1 hy1 hc
         generalize Yc (σ 0)=yc at hcell
         generalize d (σ 0)=di at*
         generalize σ 0=si at*
         go_wp2_with fail
         go_quiet (fail)
         go_wp2_with fail
         go_roundw
         case rel=>exact ⟨1,by omega,rfl,by rw [HU1.out];rfl,HY2 _,HL2 _,HB2 _,hz2 _⟩
         case measure=>simp [intOf];omega
       · obtain ⟨i0,rfl⟩:∃i0,i=i0+1:=⟨i - 1,by omega⟩
         rw [Nat.add_sub_cancel] at e0
         have hσ0:=HO.out.lt i0 (by omega)
         obtain ⟨qd',eq',_,hcq,_⟩:=HQ.out.below hbq i0 (by omega)
         cases eq'
         have hcq':∀t,(wq.drewN t).cell? (qd.add i0)=some (.int .i64 ((d (σ i0):Nat):Int)):=fun _=>hcq
         have hdi0:=(HO.out.dips.is (σ i0) hσ0).1
         have hat0:∀t,(wq.drewN t).cell? ⟨B,d (σ i0),none⟩=some (.int .i64 ((σ i0:Nat):Int)):=fun t=>by
          have:=hLq.out.cell (d (σ i0))
          rw [icells_at _ _ _ hdi0,HJ.out (σ i0) hσ0] at this
          exact this
         have hdn0:((d (σ i0):Nat):Int) < (n:Int):=by omega
         have hA:=fun q=>alike_any (HR.out.below (hbq.trans (below_drewN' (Below.refl _ _) q)) hT) HO.out.dips B P cp (HP.out.below (hbq.trans (below_drewN' (Below.refl _ _) q))) hσ0 hσ
         have HA:∀q,Hid (Calls Tryz.prog 120 #[.pointer (some ⟨g,0,none⟩),.slice P m cp,.int .i64 ((σ i0:Nat):Int),.int .i64 ((σ (i0+1):Nat):Int)] (wq.drewN q) fun e w'=>e=.returned (.bool (decide (Alike X m d (σ i0) (σ (i0+1)))))∧∃j,w'=wq.drewN j):=
          fun q=>Lib.hid ((hA q).mono fun _ _ hh=>by
           obtain ⟨h1,j,h2⟩:=hh
           exact ⟨h1,q+j,h2.trans (World.drewN_drewN _ _ _)⟩)
         obtain ⟨i1,hi1⟩:∃i1,i0+1=i1:=⟨_,rfl⟩
         have hwi:IntKind.i64.wrap ((i1:Int) - 1)=(i0:Int):=by rw [IntWalk.i64_in _ (by omega)];omega
         have hi0m:(i0:Int) < (m:Int):=by omega
         have hne0:((i1:Int)==0)=false:=by rw [beq_eq_false_iff_ne];omega
         have hne1:¬(i1:Int)=0:=by omega
         have hne2:¬i1=0:=by omega
         have HU1:=Lib.hid hu1
         rw [hi1] at hc hcp hat hdn hσi hcell hfree hlti HY2 HL2 HB2 hz2 HA HU1 hlt2
         have HI1:=Lib.hid hi1
         by_cases hal:Alike X m d (σ i0) (σ (i0+1))
         · rw [hi1] at hal
           have HA2:∀q,Hid (Calls Tryz.prog 120 #[.pointer (some ⟨g,0,none⟩),.slice P m cp,.int .i64 ((σ i0:Nat):Int),.int .i64 ((σ i1:Nat):Int)] (wq.drewN q) fun e w'=>e=.returned (.bool true)∧∃j,w'=wq.drewN j):=fun q=>by
            have:=(HA q).out
            rw [decide_eq_true hal] at this
            exact Lib.hid this
           obtain rfl:u1=u:=by
            rw [hi1,if_neg (by rintro (e | e);exact absurd e hne2;exact e hal)] at e0
            exact e0
           rw [hi1] at hu ⊢
           rw [hu]
           clear hup hto hto0 e0 hu hu1 hy1 hA HA hal hcq hi1 hσ hσ0 hdi hdi0 hY hLq hLY hYj
           generalize Yc (σ i1)=yc at hcell
           generalize d (σ i1)=di at*
           generalize d (σ i0)=dj at*
           generalize σ i1=si at*
           generalize σ i0=sj at*
           go_wp2_with fail
           go_quiet ((go_at_call 120;with_reducible exact (HA2 _).out))
           go_wp2_with fail
           go_roundw
           case rel=>exact ⟨i1+1,by omega,by go_num,by rw [HU1.out],HY2 _,HL2 _,HB2 _,hz2 _⟩
           case measure=>simp [intOf];omega
         · rw [hi1] at hal
           have HA2:∀q,Hid (Calls Tryz.prog 120 #[.pointer (some ⟨g,0,none⟩),.slice P m cp,.int .i64 ((σ i0:Nat):Int),.int .i64 ((σ i1:Nat):Int)] (wq.drewN q) fun e w'=>e=.returned (.bool false)∧∃j,w'=wq.drewN j):=fun q=>by
            have:=(HA q).out
            rw [decide_eq_false hal] at this
            exact Lib.hid this
           have e1:u1=u+1:=by
            rw [hi1,if_pos (.inr hal)] at e0
            exact e0
           have hwu:IntKind.i64.wrap ((u:Int)+1)=(u1:Int):=by rw [IntWalk.i64_in _ (by omega)];omega
           rw [hi1] at hu ⊢
           rw [hu]
           clear hup hto hto0 e0 hu hu1 hy1 hA HA hal hcq hi1 hσ hσ0 hdi hdi0 hY hLq hLY hYj e1
           generalize Yc (σ i1)=yc at hcell
           generalize d (σ i1)=di at*
           generalize d (σ i0)=dj at*
           generalize σ i1=si at*
           generalize σ i0=sj at*
           go_wp2_with fail
           go_quiet ((go_at_call 120;with_reducible exact (HA2 _).out))
           go_wp2_with fail
           go_roundw
           case rel=>exact ⟨i1+1,by omega,by go_num,by rw [HU1.out],HY2 _,HL2 _,HB2 _,hz2 _⟩
           case measure=>simp [intOf];omega
     · have him:i=m:=by omega
       have hge2:¬(i:Int) < (m:Int):=by omega
       have HF:Hid (∃Y,Names X m d σ Y∧wq.ownsRow B 3 1 (.slice (some ⟨B+1,0,none⟩) m m) m (icells (xi Y) m)∧Below B w wq):=Lib.hid (by
        obtain ⟨Yc,hLY,hYj⟩:=hY.out
        rw [him] at hYj
        have hYn:∀k,k < m→Yc k=(((Yc k).toNat:Nat):Int):=fun k hk=>by
         obtain ⟨j,hj,rfl⟩:=HO.out.onto hk
         rw [hYj j hj]
         rfl
        refine ⟨fun k=>(Yc k).toNat,fun j hj=>?_,?_,hbq⟩
        · show (Yc (σ j)).toNat=_
          rw [hYj j hj,Int.toNat_natCast]
        · rw [←icells_congr (U:=Yc) (U':=xi fun k=>(Yc k).toNat) hYn]
          exact owns_lies hLY (by omega) (by rw [icells_length]) (by unfold maxLen;omega))
       have HU:=Lib.hid (show unl X m d σ i=unl X m d σ m by rw [him])
       clear him hY hLq
       generalize unl X m d σ i=ui at*
       go_wp2_with fail
       go_ret2
       obtain ⟨Y,a1,a2,a3⟩:=HF.out
       refine ⟨B+1,?_,Y,a1,a2,a3⟩
       rw [←HU.out]
       rfl
end
end Go.Proofs.YtcidobpbepeakaaGreat
namespace Go.Proofs.YtcidobpbepeakaaGreat
theorem cnt_onto (f:Nat→Bool):∀n c,c < Pl.cnt f n→∃j,j < n∧f j=true∧Pl.cnt f j=c
 | 0,c,h=>absurd h (Nat.not_lt_zero c)
 | n+1,c,h=>by
   by_cases hf:f n=true
   · rw [cnt_true hf] at h
     by_cases hc:c=Pl.cnt f n
     · exact ⟨n,Nat.lt_succ_self n,hf,hc.symm⟩
     · obtain ⟨j,h1,h2⟩:=cnt_onto f n c (by omega)
       exact ⟨j,by omega,h2⟩
   · rw [cnt_false (by simpa using hf)] at h
     obtain ⟨j,h1,h2⟩:=cnt_onto f n c h
     exact ⟨j,by omega,h2⟩
section
variable {X:Nat→Nat} {n m:Nat} {D:Nat→Nat}
theorem Dips.many (h:Dips X n m D):m=Pl.cnt (dip X n) n:=by
 have h1:=pigeon n m (dip X n) D h.is h.inj
 have h2:=covered n m (dip X n) D h.all
 omega
theorem picks_dips {Q:Nat→Nat→Prop} {S:Nat→Int} {s:Nat→Nat} {U:Nat→Int} (hs:InOrder n Q S s) (hU:Picks (fun j=>dip X n (s j)) s n U):
    Dips X n (Pl.cnt (fun j=>dip X n (s j)) n) (fun c=>(U c).toNat)∧(∀c,c < Pl.cnt (fun j=>dip X n (s j)) n→U c=(((U c).toNat:Nat):Int))∧
     ∀i j,i < j→j < Pl.cnt (fun j=>dip X n (s j)) n→¬Q (U j).toNat (U i).toNat:=by
 obtain ⟨_,h1,h2,h3⟩:=hs
 have at_:∀c,c < Pl.cnt (fun j=>dip X n (s j)) n→∃j,j < n∧dip X n (s j)=true∧Pl.cnt (fun j=>dip X n (s j)) j=c∧U c=((s j:Nat):Int):=fun c hc=>by
  obtain ⟨j,g1,g2,g3⟩:=cnt_onto _ n c hc
  refine ⟨j,g1,g2,g3,?_⟩
  have:=hU j g1 g2
  rw [g3] at this
  exact this
 refine ⟨⟨fun c hc=>?_,fun c c' hc hc' he=>?_,fun p hp hd=>?_⟩,fun c hc=>?_,fun i j hij hj=>?_⟩
 · obtain ⟨j,g1,g2,_,g4⟩:=at_ c hc
   show (U c).toNat < n∧dip X n (U c).toNat=true
   rw [g4,Int.toNat_natCast]
   exact ⟨h1 j g1,g2⟩
 · obtain ⟨j,g1,_,g3,g4⟩:=at_ c hc
   obtain ⟨j',g1',_,g3',g4'⟩:=at_ c' hc'
   have he:(U c).toNat=(U c').toNat:=he
   rw [g4,g4',Int.toNat_natCast,Int.toNat_natCast] at he
   rw [←g3,←g3',h2 j j' g1 g1' he]
 · obtain ⟨j,hj,rfl⟩:=inj_onto n s h1 (fun _ _ a b c=>h2 _ _ a b c) p hp
   refine ⟨Pl.cnt (fun j=>dip X n (s j)) j,Pl.cnt_at_lt (f:=fun j=>dip X n (s j)) hj hd,?_⟩
   show (U _).toNat=_
   rw [hU j hj hd,Int.toNat_natCast]
 · obtain ⟨j,_,_,_,g4⟩:=at_ c hc
   rw [g4,Int.toNat_natCast]
 · obtain ⟨a,a1,a2,a3,a4⟩:=at_ i (by omega)
   obtain ⟨b,b1,b2,b3,b4⟩:=at_ j hj
   rw [a4,b4,Int.toNat_natCast,Int.toNat_natCast]
   refine h3 a b ?_ b1
   rcases Nat.lt_or_ge a b with g | g
   · exact g
   · have:=Pl.cnt_mono (fun j=>dip X n (s j)) g
     omega
theorem picks_up {U:Nat→Int} (hU:Picks (dip X n) (fun p=>p) n U):DipsUp X n (Pl.cnt (dip X n) n) (fun c=>(U c).toNat)∧∀c,c < Pl.cnt (dip X n) n→U c=(((U c).toNat:Nat):Int):=by
 have h:=picks_dips (X:=X) (n:=n) (Q:=fun p q=>p < q) (S:=fun j=>((j:Nat):Int)) (s:=fun j=>j) (U:=U) ⟨fun _ _=>rfl,fun _ h=>h,fun _ _ _ _ e=>e,fun i j hij _ h=>by
  have h:j < i:=h
  omega⟩ hU
 refine ⟨⟨h.1,fun k l hkl hl=>?_⟩,h.2.1⟩
 have h1:¬(U l).toNat < (U k).toNat:=h.2.2 k l hkl hl
 have h2:(U k).toNat≠(U l).toNat:=fun e=>by
  have:=h.1.inj k l (Nat.lt_trans hkl hl) hl e
  omega
 show (U k).toNat < (U l).toNat
 omega
theorem dipOrd_of {d:Nat→Nat} (hd:DipsUp X n m d) (hD:Dips X n m D) (ho:∀i j,i < j→j < m→¬Ahead X n 1 (D j) (D i)):∃σ,(∀j,j < m→D j=d (σ j))∧DipOrd X n m d σ:=by
 have hx:∀j,∃k,j < m→k < m∧d k=D j:=fun j=>by
  by_cases hj:j < m
  · obtain ⟨k,hk,e⟩:=hd.all (D j) (hD.is j hj).1 (hD.is j hj).2
    exact ⟨k,fun _=>⟨hk,e⟩⟩
  · exact ⟨0,fun h=>absurd h hj⟩
 obtain ⟨σ,hσ⟩:=Classical.axiomOfChoice hx
 refine ⟨σ,fun j hj=>(hσ j hj).2.symm,hd,fun j hj=>(hσ j hj).1,fun i j hi hj he=>?_,fun i j hij hj=>?_⟩
 · refine hD.inj i j hi hj ?_
   rw [←(hσ i hi).2,←(hσ j hj).2,he]
 · rw [(hσ j hj).2,(hσ i (by omega)).2]
   exact ho i j hij hj
theorem dips_of {d y:Nat→Nat} (hd:Dips X n m d) (hy:∀j,j < m→y j < m) (hi:∀i j,i < m→j < m→y i=y j→i=j):Dips X n m (fun j=>d (y j)):=
 ⟨fun k hk=>hd.is _ (hy k hk),fun k l hk hl he=>hi k l hk hl (hd.inj _ _ (hy k hk) (hy l hl) he),fun p hp hdp=>by
   obtain ⟨k,hk,rfl⟩:=hd.all p hp hdp
   obtain ⟨j,hj,rfl⟩:=inj_onto m y hy (fun _ _ a b c=>hi _ _ a b c) k hk
   exact ⟨j,hj,rfl⟩⟩
end
end Go.Proofs.YtcidobpbepeakaaGreat

namespace Go.Proofs.YtcidobpbepeakaaGreat
open Go.RowKit Go.Shelf
attribute [local go_sem] Oper.semAt_some
structure Still (A A':World):Prop where
 heap:A'.heap=A.heap
 os:A'.os=A.os
 tape:A'.tape=A.tape
 output:A'.output=A.output
def IntsAt (w:World) (A:Option Addr) (n:Nat):Prop:=∀j,j < n→∃(ad:Addr) (v:Int),A=some ad∧w.cell? (ad.add j)=some (.int .i64 v)
def BackOk (A:Option Addr) (n i:Nat) (x:Nat×Int) (w:World):Prop:=x.1+i+1=n∧∃ad:Addr,A=some ad∧w.cell? (ad.add x.1)=some (.int .i64 x.2)
theorem backward_any (A:Option Addr) (n c:Nat) (w:World):
    Calls Tryz.prog 70 #[.slice A n c] w fun e w'=>e=.returned (.func (.func 114) #[] #[.pointer (some ⟨w.heap.size,0,none⟩)])∧w'=w.alloc (.cells #[.slice A n c] 34):=by
 go_enter Tryz.func70,Tryz.ntmps70
 go_wp2_with fail
 go_ret
 exact ⟨rfl,rfl⟩
theorem backward_gives (A:Option Addr) (n c b1:Nat) (w:World) (hn:n≤9223372036854775807) (h1:b1 < w.heap.size) (c1:w.cell? ⟨b1,0,none⟩=some (.slice A n c)) (hI:IntsAt w A n):
    Gives Tryz.prog 114 #[.pointer (some ⟨b1,0,none⟩)] (fun x:Nat×Int=>#[.int .i64 (x.1:Int),.int .i64 x.2]) (BackOk A n) n Still
     (fun A1 A2=>A2.heap[b1]?=A1.heap[b1]?∧(IntsAt A1 A n→IntsAt A2 A n)) w:=by
 intro l J Jx W hW _ hJ hJx hY h0
 have C1:=(hW.cell (p:=⟨b1,0,none⟩) h1).trans c1
 have HI:Hid (IntsAt W A n):=Lib.hid fun j hj=>by
  obtain ⟨ad,v,e,hc⟩:=hI j hj
  have hlt:=cell_in hc
  exact ⟨ad,v,e,(hW.cell hlt).trans hc⟩
 have HY:=Lib.hid hY
 have HJ:=Lib.hid hJ
 have HJx:=Lib.hid hJx
 have hz:IntKind.i64.wrap ((n:Int) - 1)=(n:Int) - 1:=IntWalk.i64_in _ (by omega)
 clear hY hJ hJx c1 hW h1 hI
 refine (callsIn_wide (n:=0)).1 ?_
 refine callsIn_of_wp Tryz.func114 rfl trivial ?_ rfl
 simp only [Tryz.ntmps114,List.size_toArray,List.length_cons,List.length_nil,Nat.reduceAdd,Nat.reduceSub,Array.replicate_succ,Array.replicate_zero,List.push_toArray,List.append_toArray,List.nil_append,List.cons_append]
 gi_wp2
 gi_loopw [3] (fun i wr=>∃(m:Nat) (z:Int),m≤n∧z+1=(m:Int)∧i=.int .i64 z∧Hid (J (n - m) wr)∧wr.cell? ⟨b1,0,none⟩=some (.slice A n c)∧Hid (IntsAt wr A n)) (fun i _=>(intOf i+1).toNat)
 case atStart=>exact ⟨n,(n:Int) - 1,Nat.le_refl _,by omega,rfl,Lib.hid (by rw [Nat.sub_self];exact h0),C1,HI⟩
 case round=>
  clear C1 HI
  obtain ⟨m,z,hm,hzm,rfl,hJs,C1,HIs⟩:=hrel
  rcases m with _ | q
  · obtain rfl:z= -1:=by omega
    gi_wp2
    go_end0
    exact ⟨⟨_,rfl⟩,.inl hJs.out⟩
  · obtain rfl:z=(q:Int):=by omega
    have hge:decide ((0:Int)≤(q:Int))=true:=by simp
    have hqn:(q:Int) < (n:Int):=by omega
    obtain ⟨ad,v,rfl,hc⟩:=HIs.out q (by omega)
    have hw:IntKind.i64.wrap ((q:Int) - 1)=(q:Int) - 1:=IntWalk.i64_in _ (by omega)
    have hy0:=HY.out (n - (q+1)) (q,v) wr (by omega) ⟨by show q+(n - (q+1))+1=n;omega,ad,rfl,hc⟩ hJs.out
    rw [show n - (q+1)+1=n - q by omega] at hy0
    obtain ⟨fn,tmps,assign,body,hy,hR⟩:=hy0
    clear hzm hJs
    gi_wp2
    refine ⟨rfl,hR.mono ?_⟩
    rintro e W3 (⟨rfl,hJ3,hk1,hk2⟩ | ⟨rfl,hJx3,_⟩)
    · have C13:W3.cell? ⟨b1,0,none⟩=some (.slice (some ad) n c):=(World.cell?_of_block (w:=wr) (a:=⟨b1,0,none⟩) hk1).trans C1
      have HJ3:=Lib.hid hJ3
      have HI3:=Lib.hid (hk2 HIs.out)
      clear hk1 hk2 hJ3 hy hR HIs
      gi_wp2
      go_roundw
      case rel=>exact ⟨q,(q:Int) - 1,by omega,by omega,rfl,HJ3,C13,HI3⟩
      case measure=>simp [intOf]
    · gi_wp2
      refine bodyPost_ret (results_none rfl _ _ _) rfl ?_
      exact ⟨⟨_,rfl⟩,.inr hJx3⟩
end Go.Proofs.YtcidobpbepeakaaGreat
namespace Go.Proofs.YtcidobpbepeakaaGreat
open Go.RowKit
attribute [local go_sem] Oper.semAt_some
def RoundKeeps (A:Option Addr) (n b1 z:Nat) (W W':World):Prop:=Off (fun k=>k=b1∨k=z∨k=z+1) W W'∧IntsAt W' A n
theorem back_law {g:Operand} {ps:Array Tmp} {assign body:Code} {Q:Exit→Act→World→Prop} {a:Act} {w:World} {nn z:Nat}
    (A:Option Addr) (n c b1:Nat) (hz:w.heap.size=z) (hn:n≤9223372036854775807) (h1:b1 < z) (c1:w.cell? ⟨b1,0,none⟩=some (.slice A n c)) (hI0:IntsAt w A n)
    (hg:a.eval g=.func (.func 114) #[] #[.pointer (some ⟨b1,0,none⟩)]) (hps:ps.size=2)
    (I:Nat→World→Prop) (hI:∀i A1 A2,I i A1→A1.grownBy A2 (some (z+1))→I i A2) (h0:I 0 w) (a₁:Nat×Int→Act)
    (hassign:∀(l:Nat) (x:Nat×Int) (W:World) (K:Act→World→Prop),K (a₁ x) W→
      assign.wpIn (Fence.wide.inRound l) 0 Tryz.prog (Exit.then K (fun _ _ _=>False)) { tmps:=(ps.zip #[.int .i64 (x.1:Int),.int .i64 x.2]).foldl (fun t (p,v)=>t.setIfInBounds p v) a.tmps,defers:=[] } W)
    (hbody:∀(l i:Nat) (x:Nat×Int) (W:World),z+2≤W.heap.size→i < n→BackOk A n i x W→I i W→
      body.wpIn (Fence.wide.inRound l) 0 Tryz.prog (roundOut (RoundKeeps A n b1 z) (I (i+1)) (fun _ _=>False) W) (a₁ x) W)
    (hdone:∀(D:Nat) (W:World),z≤D→I n W→W.heap[D]?=some (.deferred (some []))→Q .normal { a with defers:={ target:=.collected D,args:=#[] }::a.defers } W):
    (Code.rangeFunc g ps assign body).wpIn Fence.wide nn Tryz.prog Q a w:=by
 have hG:=backward_gives A n c b1 w hn (by omega) c1 hI0
 have hlo:∀ad,A=some ad→0 < n→ad.block < z:=fun ad e hn0=>by
  obtain ⟨ad',v,e',hc⟩:=hI0 0 hn0
  rw [e] at e'
  cases e'
  have:=cell_in hc
  rw [add_block] at this
  omega
 refine range_law (gf:=114) (lb:=#[.pointer (some ⟨b1,0,none⟩)]) hg (enters_of Tryz.func114 (by kernel_rfl) rfl) hG (fun _=>hps.symm)
  (RoundKeeps A n b1 z) I (fun _ _=>False) (fun A1 A2 h k _ _ _=>by rw [h.heap]) (fun A1 A2 h k h2 h3 h4=>h.1.block k h4 (by omega)) ?kp ?inv (fun _ _ _ h _=>h.elim) ?ok h0 a₁ hassign ?body ?done (fun _ _ _ _ h _=>h.elim)
 case kp=>
  intro A1 B1 C1 D1 hs g1 g2 g3
  rw [hz] at g1 g3 hs
  have s1:=g1.size
  have s2:=g2.1.size
  refine ⟨(g3.block b1 (by omega) (fun e=>by injection e with e;omega)).trans ((g2.1.block b1 (by omega) (.inl rfl)).trans (g1.block b1 (by omega) (fun e=>by injection e with e;omega))),fun _ j hj=>?_⟩
  obtain ⟨ad,v,e,hc⟩:=g2.2 j hj
  refine ⟨ad,v,e,(World.cell?_of_block (g3.block _ (cell_in hc) (fun e'=>?_))).trans hc⟩
  injection e' with e'
  have:=hlo ad e (by omega)
  rw [add_block] at e'
  omega
 case inv=>
  intro i A1 A2 h g
  rcases g with g | g
  · rw [hz] at g
    exact hI i A1 A2 h g
  · exact hI i A1 A2 h ⟨g.os,g.tape,g.output,by rw [g.heap];exact Nat.le_refl _,fun k _ _=>by rw [g.heap]⟩
 case ok=>
  rintro i x A1 A2 r ⟨e1,ad,e2,hc⟩ hr h
  refine ⟨e1,ad,e2,(World.cell?_of_block (h.block _ (cell_in hc) (fun e'=>?_))).trans hc⟩
  injection e' with e'
  have:=hlo ad e2 (by omega)
  rw [add_block] at e'
  omega
 case body=>
  intro l i x W hs hi hx hIi
  rw [hz] at hs
  exact hbody l i x W hs hi hx hIi
 case done=>
  intro D W hD hIn hk
  rw [hz] at hD
  exact hdone D W hD hIn hk
theorem ints_of_own {w:World} {B n c g:Nat} {U:Nat→Int} (h:w.ownsRow B 3 1 (.slice (some ⟨g,0,none⟩) n c) n (icells U n)):IntsAt w (some ⟨g,0,none⟩) n:=fun j hj=>
 ⟨_,U j,rfl,by rw [Addr.add_mid,Nat.zero_add,h.cellAt j (by omega)];exact icells_at U n j hj⟩
theorem ints_of_its {w:World} {B n:Nat} {A:Option Addr} {U:Nat→Int} (h:Its w B A n U):IntsAt w A n:=fun j hj=>by
 obtain ⟨ad,e,_,hc,_⟩:=h j hj
 exact ⟨ad,U j,e,hc⟩
end Go.Proofs.YtcidobpbepeakaaGreat
