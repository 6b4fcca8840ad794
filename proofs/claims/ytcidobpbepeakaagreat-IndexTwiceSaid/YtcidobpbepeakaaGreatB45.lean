/- Texts of ours, joined: FindPls FindAny. -/
import Derived.Test.YtcidobpbepeakaaGreatB43
import Derived.Test.YtcidobpbepeakaaGreatB32
import Derived.Test.YtcidobpbepeakaaGreatB44
set_option maxRecDepth 1000000
set_option maxHeartbeats 6400000
namespace Go.Proofs.YtcidobpbepeakaaGreat
open Go.RowKit Go.Shelf
theorem last_at {T:Nat→Int} {n:Nat} {s:Nat→Nat} (hE:OnceT T n) (hs:IsSA T n s):trnB T n s (T (n - 1)) < n∧s (trnB T n s (T (n - 1)))=n - 1:=by
 obtain ⟨i,hi,e⟩:=hs.onto hE.1
 have hc:trnF T n s i=T (n - 1):=by
  rw [trnF_at hs hi,e]
  unfold aheadN
  rw [if_pos rfl]
 have h0:trnC T n s (T (n - 1)) i=0:=trnC_none' fun j hj g=>by
  have hjn:j < n:=by omega
  rw [trnF_at hs hjn] at g
  have hl:=aheadN_lt (hs.1 j hjn)
  have:aheadN n (s j)=n - 1:=by
   by_cases q:aheadN n (s j)+1 < n
   · exact absurd g (hE.2 _ q)
   · omega
  have:s j=0:=by
   unfold aheadN at this
   split at this
   · assumption
   · have:=hs.1 j hjn
     omega
  have:=hs.inj hjn hi (by omega)
  omega
 have h1:lfF T n s i=trnB T n s (T (n - 1)):=by
  unfold lfF
  rw [hc,h0,Nat.add_zero]
 rw [←h1]
 refine ⟨lfF_lt hi,?_⟩
 rw [lfF_at hE hs hi,e]
 unfold aheadN
 rw [if_pos rfl]
theorem plsF_more (V:Nat→Int) (n:Nat) (P:Nat→Int) (m q:Nat):∀d,∃R,plsF V n P m (q+d)=plsF V n P m q++R
 | 0=>⟨[],(List.append_nil _).symm⟩
 | d+1=>by
   obtain ⟨R,h⟩:=plsF_more V n P m q d
   rw [show q+(d+1)=q+d+1 by omega]
   by_cases g:0 < m∧stB V n P m (q+d)=true
   · exact ⟨R++[((q+d:Nat):Int)],by rw [plsF_hit g,h,List.append_assoc]⟩
   · exact ⟨R,by rw [plsF_miss g,h]⟩
theorem plsF_get {V:Nat→Int} {n:Nat} {P:Nat→Int} {m q:Nat} (hq:q < n) (g:0 < m∧stB V n P m q=true):lstI (plsF V n P m n) (plsF V n P m q).length=((q:Nat):Int):=by
 obtain ⟨R,h⟩:=plsF_more V n P m (q+1) (n - (q+1))
 rw [show q+1+(n - (q+1))=n by omega,plsF_hit g] at h
 unfold lstI
 rw [h,List.append_assoc,List.getD_eq_getElem?_getD,List.getElem?_append_right (Nat.le_refl _),Nat.sub_self]
 rfl
theorem lstI_room (V:Nat→Int) (n:Nat) (P:Nat→Int) (m k:Nat) (hk:k≤4194304) (j:Nat): -9223372036854775808≤lstI (plsF V n P m k) j∧lstI (plsF V n P m k) j≤9223372036854775807:=by
 unfold lstI
 by_cases h:j < (plsF V n P m k).length
 · rw [List.getD_eq_getElem?_getD,List.getElem?_eq_getElem h]
   obtain ⟨a,h1,_,_,h4⟩:=mem_plsF.1 (List.getElem_mem h)
   show _≤(plsF V n P m k)[j]∧(plsF V n P m k)[j]≤_
   rw [h4]
   omega
 · rw [List.getD_eq_getElem?_getD,List.getElem?_eq_none (by omega)]
   decide
section
variable {w:World} {B g n al k:Nat} {T:Nat→Int} {s:Nat→Nat} {a:FdA}
theorem fdPassed_any (h:Fd w B g n T s al k a) (P:Nat→Int) (m x y L:Nat) (hm:0 < m) (hxy:x < y) (hyn:y≤n) (hL:y - x=L) (hin:∀i,i < n→(stB T n P m (s i)=true↔x≤i∧i < y)) (hlen:(plsF T n P m n).length=L):
    Calls Tryz.prog 64 #[.pointer (some ⟨g,0,none⟩),.int .i64 (x:Int),.int .i64 (y:Int)] w fun e w'=>(∃G,e=.returned (.slice (some ⟨G,0,none⟩) L L)∧ItsR w' (some ⟨G,0,none⟩) L L (lstI (plsF T n P m n)))∧Below w.heap.size w w':=by
 have H:=Lib.hid h
 have HN:=Lib.hid hin
 have hn:=h.few
 have hn0:=h.once.1
 obtain ⟨hi1,hi2⟩:=last_at h.once h.sa
 obtain ⟨i0,hi0⟩:∃i0,trnB T n s (T (n - 1))=i0:=⟨_,rfl⟩
 rw [hi0] at hi1 hi2
 obtain ⟨c,hc⟩:∃c:Nat,T (n - 1)=(c:Int):=⟨(T (n - 1)).toNat,by have:=(h.most (n - 1) (by omega)).1;omega⟩
 have hcm:c≤a.m:=by have:=(h.most (n - 1) (by omega)).2;omega
 have e1:IntKind.i64.wrap ((y:Int) - (x:Int))=(L:Int):=by rw [IntWalk.i64_in _ (by omega)];omega
 have hMk:=make_ints0 w L (by omega)
 have l2:=lies_new w 3 (icells (fun _=>0) L)
 have b2:Below w.heap.size w (w.alloc (.cells (icells (fun _=>0) L).toArray 3)):=(Below.refl _ _).alloc (Nat.le_refl _) _
 obtain ⟨w2,hw2⟩:∃w2,w.alloc (.cells (icells (fun _=>0) L).toArray 3)=w2:=⟨_,rfl⟩
 obtain ⟨G,hG⟩:∃G,w.heap.size=G:=⟨_,rfl⟩
 rw [hw2] at hMk l2 b2
 rw [hG] at hMk l2
 have hF2:=h.keep b2
 have HG:∀q,Hid (Calls Tryz.prog 107 #[.pointer (some ⟨a.gb,0,none⟩),.int .i64 (c:Int)] (w2.drewN q) fun e w'=>e=.returned (.int .u64 (i0:Int))∧w2.drewN q=w'):=fun q=>Lib.hid (by
  have:=(hF2.drewN q).below.get c (by omega)
  rw [show trnB T n s (c:Int)=i0 by rw [←hc,hi0]] at this
  exact this)
 have c0:=hF2.c0
 rw [hc] at c0
 have c3:=hF2.c3
 have e2:IntKind.i64.wrap (i0:Int)=(i0:Int):=IntWalk.i64_in _ (by omega)
 have HLn:=fun q=>Lib.hid (fdLen_any (hF2.drewN q))
 have e3:IntKind.i64.wrap ((n:Int) - 1)=(n:Int) - 1:=IntWalk.i64_in _ (by omega)
 have HU0:Hid (∃U,Lies w2 G 3 (icells U L)∧∀j,(plsF T n P m n).length≤j→j < L→U j=lstI (plsF T n P m n) j):=Lib.hid ⟨_,l2,fun j h1 h2=>by omega⟩
 have HLe:=Lib.hid hlen
 have HB2:=Lib.hid b2
 have HI0:Hid (s i0+1=n):=Lib.hid (by omega)
 have HL:=Lib.hid hL
 have hLn:L≤n:=by omega
 clear l2 b2 hi0 hi2 hin h hF2 hlen hc hcm hL
 go_enter Tryz.func64,Tryz.ntmps64
 go_wp2_with fail
 go_quiet ((go_at_call 107;with_reducible exact quiet_keep (HG _).out))
 go_wp2_with (go_at_call 69;(with_reducible refine (HLn _).out.mono ?_);rintro e w' ⟨rfl,rfl⟩)
 go_loopw [8,9,10] (fun u v p wr=>∃i q l:Nat,∃z:Int,q≤n∧i < n∧u=.int .i64 (i:Int)∧v=.int .i64 (l:Int)∧p=.int .i64 z∧z+1=(q:Int)∧Hid ((0 < q→s i+1=q)∧(plsF T n P m q).length=l)∧Hid (∃U,Lies wr G 3 (icells U L)∧∀j,l≤j→j < L→U j=lstI (plsF T n P m n) j)∧Below w.heap.size w wr) (fun _ _ p _=>(intOf p+1).toNat)
 case atStart=>exact ⟨i0,n,L,(n:Int) - 1,Nat.le_refl _,hi1,rfl,rfl,rfl,by omega,Lib.hid ⟨fun _=>HI0.out,HLe.out⟩,Lib.hid (by
  obtain ⟨U,h1,h2⟩:=HU0.out
  exact ⟨U,h1,fun j g1 g2=>h2 j (by rw [HLe.out];exact g1) g2⟩),below_drewN' HB2.out _⟩
 case round=>
  clear HG HLn HU0 HB2 HI0 hMk hw2
  obtain ⟨i,q,l,z,hq,hi,rfl,rfl,rfl,hz,hst,hU,hb⟩:=hrel
  by_cases hl0:l=0
  · subst hl0
    have g1:decide ((0:Int) < ((0:Nat):Int))=false:=by decide
    go_wp2_with fail
    go_ret
    obtain ⟨U,h1,h2⟩:=hU.out
    exact ⟨⟨G,rfl,itsR_alike h1 (by omega) (fun j hj=>h2 j (Nat.zero_le _) hj) (fun j _=>lstI_room T n P m n (by omega) j)⟩,hb⟩
  · have g1:(0:Int) < (l:Int):=by omega
    have hq0:0 < q:=by
     rcases Nat.eq_zero_or_pos q with e | e
     · exact absurd (by rw [←hst.out.2,e];rfl) hl0
     · exact e
    obtain ⟨p,rfl⟩:∃p,q=p+1:=⟨q - 1,by omega⟩
    obtain rfl:z=(p:Int):=by omega
    have hsi:s i=p:=by have:=hst.out.1 hq0;omega
    have hFd:=H.out.keep hb
    obtain ⟨i2,hi2⟩:∃i2,lfF T n s i=i2:=⟨_,rfl⟩
    have hi2n:i2 < n:=by rw [←hi2];exact lfF_lt hi
    have HI2:Hid (0 < p→s i2+1=p):=Lib.hid fun hp=>by
     rw [←hi2,lfF_at H.out.once H.out.sa hi,hsi]
     unfold aheadN
     rw [if_neg (by omega)]
     omega
    have ez:IntKind.i64.wrap ((p:Int) - 1)=(p:Int) - 1:=IntWalk.i64_in _ (by omega)
    by_cases hh:x≤i∧i < y
    · have hit:0 < m∧stB T n P m p=true:=⟨hm,by rw [←hsi];exact (HN.out i hi).2 hh⟩
      have hl1:(plsF T n P m p).length+1=l:=by
       have:=hst.out.2
       rw [plsF_hit hit,List.length_append] at this
       exact this
      obtain ⟨l1,hl1e⟩:∃l1,(plsF T n P m p).length=l1:=⟨_,rfl⟩
      rw [hl1e] at hl1
      have hlL:l≤L:=by
       obtain ⟨R,hR⟩:=plsF_more T n P m (p+1) (n - (p+1))
       rw [show p+1+(n - (p+1))=n by omega] at hR
       have h1:=HLe.out
       rw [hR,List.length_append,hst.out.2] at h1
       omega
      have hv:lstI (plsF T n P m n) l1=(p:Int):=by rw [←hl1e];exact plsF_get (by omega) hit
      obtain ⟨U,hU1,hU2⟩:=hU.out
      have cm:wr.cell? ⟨G,l1,none⟩=some (.int .i64 (U l1)):=by rw [hU1.cell];exact icells_at _ _ _ (by omega)
      have fm:=hU1.free l1
      have hb3:Below w.heap.size w (wr.setCell ⟨G,l1,none⟩ (.int .i64 (p:Int))):=hb.setCell (p:=⟨G,l1,none⟩) (by show w.heap.size≤G;omega) _
      have hAh:=fdAhead_any (H.out.keep hb3) i hi
      rw [hi2] at hAh
      have HAh:=Lib.hid hAh
      have HU3:Hid (∃U,Lies (wr.setCell ⟨G,l1,none⟩ (.int .i64 (p:Int))) G 3 (icells U L)∧∀j,l1≤j→j < L→U j=lstI (plsF T n P m n) j):=Lib.hid ⟨putI U l1 (p:Int),by
       have:=hU1.put l1 (.int .i64 (p:Int))
       rw [icells_put] at this
       exact this,fun j h1 h2=>by
        by_cases e:j=l1
        · rw [e,putI_at,hv]
        · rw [putI_off _ e]
          exact hU2 j (by omega) h2⟩
      have el:IntKind.i64.wrap ((l:Int) - 1)=(l1:Int):=by rw [IntWalk.i64_in _ (by omega)];omega
      have hlL1:(l1:Int) < (L:Int):=by omega
      have g2:(x:Int)≤(i:Int):=by omega
      have g3:decide ((x:Int)≤(i:Int))=true:=decide_eq_true g2
      have g4:(i:Int) < (y:Int):=by omega
      have g5:decide ((i:Int) < (y:Int))=true:=decide_eq_true g4
      have HS2:Hid ((0 < p→s i2+1=p)∧(plsF T n P m p).length=l1):=Lib.hid ⟨HI2.out,hl1e⟩
      obtain ⟨w3,hw3⟩:∃w3,wr.setCell ⟨G,l1,none⟩ (.int .i64 (p:Int))=w3:=⟨_,rfl⟩
      rw [hw3] at hb3 HAh HU3
      clear hit hl1 hl1e hv hU1 hU2 hU hsi hst hAh hFd HI2 hi2 hh
      go_wp2_with (go_at_call 108;(with_reducible refine HAh.out.mono ?_);rintro e w4 ⟨rfl,j,rfl⟩)
      go_roundw
      case rel=>exact ⟨i2,p,l1,(p:Int) - 1,by omega,hi2n,rfl,rfl,rfl,by omega,HS2,Lib.hid HU3.out,below_drewN' hb3 j⟩
      case measure=>simp [intOf]
    · have hmi:¬(0 < m∧stB T n P m p=true):=fun g=>hh ((HN.out i hi).1 (by rw [hsi];exact g.2))
      have HS2:Hid ((0 < p→s i2+1=p)∧(plsF T n P m p).length=l):=Lib.hid ⟨HI2.out,by rw [←plsF_miss hmi];exact hst.out.2⟩
      have hAh:=fdAhead_any hFd i hi
      rw [hi2] at hAh
      have HAh:=Lib.hid hAh
      clear hmi hsi hst hAh hFd HI2 hi2
      by_cases hxi:x≤i
      · have g2:(x:Int)≤(i:Int):=by omega
        have g3:decide ((x:Int)≤(i:Int))=true:=decide_eq_true g2
        have g4:¬(i:Int) < (y:Int):=by omega
        have g5:decide ((i:Int) < (y:Int))=false:=decide_eq_false g4
        have g6:decide (i < y)=false:=decide_eq_false (by omega)
        clear hh
        go_wp2_with (go_at_call 108;(with_reducible refine HAh.out.mono ?_);rintro e w4 ⟨rfl,j,rfl⟩)
        go_roundw
        case rel=>exact ⟨i2,p,l,(p:Int) - 1,by omega,hi2n,rfl,rfl,rfl,by omega,HS2,Lib.hid hU.out,below_drewN' hb j⟩
        case measure=>simp [intOf]
      · have g3:decide ((x:Int)≤(i:Int))=false:=decide_eq_false (by omega)
        have g6:decide (x≤i)=false:=decide_eq_false (by omega)
        clear hh
        go_wp2_with (go_at_call 108;(with_reducible refine HAh.out.mono ?_);rintro e w4 ⟨rfl,j,rfl⟩)
        go_roundw
        case rel=>exact ⟨i2,p,l,(p:Int) - 1,by omega,hi2n,rfl,rfl,rfl,by omega,HS2,Lib.hid hU.out,below_drewN' hb j⟩
        case measure=>simp [intOf]
theorem sorted_pls {T P:Nat→Int} {n m x L:Nat} {s:Nat→Nat} {ys:List Int} (hs:IsSA T n s) (hm:0 < m) (hx:x+L≤n) (hin:∀i,i < n→(stB T n P m (s i)=true↔x≤i∧i < x+L)) (hp:ys.Perm ((List.range L).map fun j=>((s (x+j):Nat):Int))) (hy:ys.Pairwise (·≤·)):ys=plsF T n P m n:=by
 have hr:=plsF_rise T n P m n
 have hnd:(plsF T n P m n).Nodup:=hr.imp fun h=>by omega
 have hnd2:((List.range L).map fun j=>((s (x+j):Nat):Int)).Nodup:=by
  refine List.pairwise_map.2 (List.Pairwise.imp_of_mem (fun {a b} ha hb h=>?_) List.nodup_range)
  rw [List.mem_range] at ha hb
  intro e
  have:=hs.inj (show x+a < n by omega) (show x+b < n by omega) (by omega)
  exact h (by omega)
 have hpp:((List.range L).map fun j=>((s (x+j):Nat):Int)).Perm (plsF T n P m n):=(List.perm_ext_iff_of_nodup hnd2 hnd).2 fun z=>by
  rw [List.mem_map,mem_plsF]
  constructor
  · rintro ⟨j,hj,rfl⟩
    rw [List.mem_range] at hj
    exact ⟨s (x+j),hs.1 _ (by omega),hm,stB_iff.1 ((hin (x+j) (by omega)).2 ⟨by omega,by omega⟩),rfl⟩
  · rintro ⟨a,h1,_,h3,rfl⟩
    obtain ⟨i,hi,rfl⟩:=hs.onto h1
    have:=(hin i hi).1 (stB_iff.2 h3)
    exact ⟨i - x,List.mem_range.2 (by omega),by rw [show x+(i - x)=i by omega]⟩
 exact List.Perm.eq_of_pairwise (le:=fun a b:Int=>a≤b) (fun a b _ _ h1 h2=>by omega) hy (hr.imp fun h=>by omega) (hp.trans hpp)
theorem fdPlaces_any (h:Fd w B g n T s al k a) (A:Option Addr) (m c:Nat) (P:Nat→Int) (ho:ItsR w A m c P):
    Calls Tryz.prog 38 #[.pointer (some ⟨g,0,none⟩),.slice A m c] w fun e w'=>(∃(A2:Option Addr) (c2:Nat),e=.returned (.slice A2 (plsF T n P m n).length c2)∧ItsR w' A2 (plsF T n P m n).length c2 (lstI (plsF T n P m n)))∧Below w.heap.size w w':=by
 have hnone:∀W,(plsF T n P m n).length=0→ItsR W none (plsF T n P m n).length 0 (lstI (plsF T n P m n)):=fun W e=>by
  rw [e]
  exact ⟨fun _=>⟨rfl,rfl⟩,Nat.le_refl _,Nat.zero_le _,fun j hj=>absurd hj (Nat.not_lt_zero j)⟩
 have hm2:m≤9223372036854775807:=by
  have h1:=ho.2.1
  have h2:=ho.2.2.1
  unfold maxLen at h2
  omega
 rcases Nat.eq_zero_or_pos m with rfl | hm
 · have HE:Hid ((plsF T n P 0 n).length=0):=Lib.hid (by rw [plsF_none];rfl)
   have HN:=Lib.hid (hnone w HE.out)
   clear h ho hnone
   go_enter Tryz.func38,Tryz.ntmps38
   go_wp2_with fail
   go_ret
   exact ⟨⟨none,0,by rw [HE.out];rfl,HN.out⟩,Below.refl _ _⟩
 · have H:=Lib.hid h
   have HRa:=fdRange_any h A m c P ho
   obtain ⟨x,y,hxy⟩:∃x y,rngF (fun i=>stB T n P m (s i)) n=(x,y):=⟨_,_,rfl⟩
   rw [hxy] at HRa
   have HRa:Hid (Calls Tryz.prog 41 #[.pointer (some ⟨g,0,none⟩),.slice A m c] w fun e w'=>e=.returned (.tuple #[.int .i64 (x:Int),.int .i64 (y:Int)])∧Below w.heap.size w w'):=Lib.hid HRa
   have hle:=rngF_le (fun i=>stB T n P m (s i)) n
   rw [hxy] at hle
   have hle:x≤y∧y≤n:=hle
   have hlen:=rngF_places (T:=T) (P:=P) h.sa hm
   rw [hxy] at hlen
   have hlen:y - x=(plsF T n P m n).length:=hlen
   have hin:∀i,i < n→(stB T n P m (s i)=true↔x≤i∧i < y):=fun i hi=>by
    have:=rngF_in (P:=P) (m:=m) h.sa hi
    rwa [hxy] at this
   have hn:=h.few
   have HNo:=Lib.hid hnone
   have g0:((m:Int)==0)=false:=by rw [beq_eq_false_iff_ne];omega
   have g0':¬m=0:=by omega
   obtain ⟨L,hL⟩:∃L,y - x=L:=⟨_,rfl⟩
   by_cases he:x=y
   · subst he
     have HE:Hid ((plsF T n P m n).length=0):=Lib.hid (by omega)
     have g1:((x:Int)==(x:Int))=true:=by simp
     clear h ho hnone hxy hle hlen hin hL
     go_enter Tryz.func38,Tryz.ntmps38
     go_wp2_with fail
     refine HRa.out.mono ?_
     rintro e w1 ⟨rfl,hb⟩
     have HB:=Lib.hid hb
     clear hb
     go_wp2_with fail
     go_ret
     exact ⟨⟨none,0,by rw [HE.out];rfl,HNo.out _ HE.out⟩,HB.out⟩
   · have g1:((x:Int)==(y:Int))=false:=by rw [beq_eq_false_iff_ne];omega
     have g2:¬x=y:=he
     have e1:IntKind.i64.wrap ((y:Int) - (x:Int))=(L:Int):=by rw [IntWalk.i64_in _ (by omega)];omega
     have HP:=Lib.hid (And.intro hlen (And.intro hin hL))
     have hLn:L≤n:=by omega
     have hxL:x+L≤n:=by omega
     have hL0:0 < L:=by omega
     clear h ho hnone hxy hlen hin hL he
     go_enter Tryz.func38,Tryz.ntmps38
     go_wp2_with fail
     refine HRa.out.mono ?_
     rintro e w1 ⟨rfl,hb⟩
     have HB:=Lib.hid hb
     have HDe:=Lib.hid (fdDear_any (H.out.keep hb) L (by omega))
     clear hb HRa
     go_wp2_with fail
     refine HDe.out.mono ?_
     rintro e w2 ⟨r,rfl,q,rfl⟩
     have hb2:=below_drewN' HB.out q
     clear HDe
     rcases r with _ | _
     · have hMk:=make_ints0 (w1.drewN q) L (by omega)
       have l2:=lies_new (w1.drewN q) 3 (icells (fun _=>0) L)
       have b2:Below (w1.drewN q).heap.size (w1.drewN q) ((w1.drewN q).alloc (.cells (icells (fun _=>0) L).toArray 3)):=(Below.refl _ _).alloc (Nat.le_refl _) _
       obtain ⟨w3,hw3⟩:∃w3,(w1.drewN q).alloc (.cells (icells (fun _=>0) L).toArray 3)=w3:=⟨_,rfl⟩
       have hsz:=hb2.size
       obtain ⟨G,hG⟩:∃G,(w1.drewN q).heap.size=G:=⟨_,rfl⟩
       rw [hw3] at hMk l2 b2
       rw [hG] at hMk l2 hsz
       have hB3:=hb2.trans (b2.mono hb2.size)
       have HL2:=Lib.hid l2
       clear hw3 hG b2 l2 hb2
       go_wp2_with fail
       go_loopw [36] (fun v wr=>∃i:Nat,i≤L∧v=.int .i64 (i:Int)∧Hid (∃U,Lies wr G 3 (icells U L)∧∀j,j < i→U j=((s (x+j):Nat):Int))∧Below w.heap.size w wr) (fun v _=>L - (intOf v).toNat)
       case atStart=>exact ⟨0,Nat.zero_le _,rfl,Lib.hid ⟨_,HL2.out,fun j hj=>absurd hj (Nat.not_lt_zero j)⟩,hB3⟩
       case round=>
        clear HL2 hB3 hMk
        obtain ⟨i,hi,rfl,hU,hb⟩:=hrel
        obtain ⟨U,hU1,hU2⟩:=hU.out
        by_cases hlt:i < L
        · have hlti:(i:Int) < (L:Int):=by omega
          have hPl:=fdPlace_in (H.out.keep hb) (x+i) (by omega)
          obtain ⟨z,hz⟩:∃z,x+i=z:=⟨_,rfl⟩
          have e2:IntKind.i64.wrap ((x:Int)+(i:Int))=(z:Int):=by rw [IntWalk.i64_in _ (by omega)];omega
          rw [hz] at hPl
          obtain ⟨p,hp⟩:∃p,s z=p:=⟨_,rfl⟩
          obtain ⟨t,ht⟩:∃t,p%k=t:=⟨_,rfl⟩
          rw [hp,ht] at hPl
          have HPl:=Lib.hid hPl
          have cm:wr.cell? ⟨G,i,none⟩=some (.int .i64 (U i)):=by rw [hU1.cell];exact icells_at _ _ _ hlt
          have fm:=hU1.free i
          have HU3:Hid (∀j,(∃U,Lies ((wr.drewN j).setCell ⟨G,i,none⟩ (.int .i64 (p:Int))) G 3 (icells U L)∧∀j,j < i+1→U j=((s (x+j):Nat):Int))∧Below w.heap.size w ((wr.drewN j).setCell ⟨G,i,none⟩ (.int .i64 (p:Int)))):=Lib.hid fun j=>⟨⟨putI U i (p:Int),by
           have:=(hU1.drewN_ j).put i (.int .i64 (p:Int))
           rw [icells_put] at this
           exact this,fun j hj=>by
            by_cases e:j=i
            · rw [e,putI_at,hz,hp]
            · rw [putI_off _ e]
              exact hU2 j (by omega)⟩,(below_drewN' hb j).setCell (p:=⟨G,i,none⟩) hsz _⟩
          clear hPl hU1 hU2 hU hp ht hz hb
          go_wp2_with (go_at_call 65;(with_reducible refine HPl.out.mono ?_);rintro e w4 ⟨rfl,j,rfl⟩;have HU4:=Lib.hid (HU3.out j))
          go_roundw
          case rel=>exact ⟨i+1,by omega,by go_num,Lib.hid HU4.out.1,HU4.out.2⟩
          case measure=>simp [intOf];omega
        · obtain rfl:i=L:=by omega
          have hge:¬(i:Int) < (i:Int):=by omega
          have HSo:=Lib.hid (sortRow_any (lo:=w.heap.size) hsz (by omega) hU1)
          have HU:=Lib.hid hU2
          clear hU hU1 hU2
          go_wp2_with (go_at_call 66;(with_reducible refine HSo.out.mono ?_);rintro e w4 ⟨rfl,hys,hb4⟩;have HYs:=Lib.hid hys;have HB4:=Lib.hid hb4;clear hys hb4)
          go_ret
          obtain ⟨hlt4,ys,hy1,hy2,hy3,hy4⟩:=HYs.out
          obtain ⟨hlen,hin,hL⟩:=HP.out
          have hye:ys=plsF T n P m n:=sorted_pls (x:=x) (L:=i) H.out.sa hm hxL (fun j hj=>by rw [hin j hj];omega) (hy2.trans (List.Perm.of_eq (List.map_congr_left fun j hj=>HU.out j (List.mem_range.1 hj)))) hy3
          have hli:(plsF T n P m n).length=i:=by rw [←hye,hy1]
          refine ⟨⟨some ⟨G,0,none⟩,i,by rw [hli];rfl,?_⟩,hb.trans HB4.out⟩
          rw [hli]
          refine ⟨fun e=>(by cases e),Nat.le_refl _,by unfold maxLen;omega,fun j hj=>⟨_,rfl,hlt4,?_,lstI_room T n P m n (by omega) j⟩⟩
          rw [Addr.add_mid,Nat.zero_add,hy4 j hj,hye]
          rfl
     · have HPa:=Lib.hid (fdPassed_any ((H.out.keep HB.out).drewN q) P m x y L hm (by omega) (by omega) HP.out.2.2 HP.out.2.1 (by rw [←HP.out.1];exact HP.out.2.2))
       have hs2:=hb2.size
       go_wp2_with fail
       refine HPa.out.mono ?_
       rintro e w3 ⟨⟨G,rfl,hi⟩,hb3⟩
       have HI:=Lib.hid hi
       have HB3:Hid (Below w.heap.size w w3):=Lib.hid (hb2.trans (hb3.mono hb2.size))
       clear hi hb3 hb2 HPa
       go_wp2_with fail
       go_ret
       have hli:(plsF T n P m n).length=L:=by rw [←HP.out.1];exact HP.out.2.2
       exact ⟨⟨some ⟨G,0,none⟩,L,by rw [hli];rfl,by rw [hli];exact HI.out⟩,HB3.out⟩
end
end Go.Proofs.YtcidobpbepeakaaGreat

namespace Go.Proofs.YtcidobpbepeakaaGreat
open Go.RowKit
attribute [local go_sem] Oper.semAt_some
theorem fdRange_nil (A:Option Addr) (m c:Nat) (w:World):Calls Tryz.prog 41 #[.pointer none,.slice A m c] w fun e w'=>e=.returned (.tuple #[.int .i64 0,.int .i64 0])∧Below w.heap.size w w':=by
 obtain ⟨lo,hlo⟩:∃lo,w.heap.size=lo:=⟨_,rfl⟩
 rw [hlo]
 obtain ⟨w1,hw1⟩:∃w1,w.alloc (.cells #[.pointer none] 69)=w1:=⟨_,rfl⟩
 have z1:w1.heap.size=lo+1:=by rw [←hw1,size_alloc,hlo]
 have l1:Lies w1 lo 69 [.pointer none]:=by rw [←hw1,←hlo];exact lies_new w _ _
 have k1:Below lo w w1:=by rw [←hw1,←hlo];exact (Below.refl _ _).alloc (Nat.le_refl _) _
 obtain ⟨w2,hw2⟩:∃w2,w1.alloc (.cells #[.slice A m c] 34)=w2:=⟨_,rfl⟩
 have z2:w2.heap.size=lo+2:=by rw [←hw2,size_alloc,z1]
 have k2:Below (lo+1) w1 w2:=by rw [←hw2,←z1];exact (Below.refl _ _).alloc (Nat.le_refl _) _
 obtain ⟨w3,hw3⟩:∃w3,w2.alloc (.cells #[.int .i64 0] 3)=w3:=⟨_,rfl⟩
 have z3:w3.heap.size=lo+3:=by rw [←hw3,size_alloc,z2]
 have l3:Lies w3 (lo+2) 3 [.int .i64 0]:=by rw [←hw3,←z2];exact lies_new w2 _ _
 have k3:Below (lo+2) w2 w3:=by rw [←hw3,←z2];exact (Below.refl _ _).alloc (Nat.le_refl _) _
 obtain ⟨w4,hw4⟩:∃w4,w3.alloc (.cells #[.int .i64 0] 3)=w4:=⟨_,rfl⟩
 have z4:w4.heap.size=lo+4:=by rw [←hw4,size_alloc,z3]
 have l4:Lies w4 (lo+3) 3 [.int .i64 0]:=by rw [←hw4,←z3];exact lies_new w3 _ _
 have k4:Below (lo+3) w3 w4:=by rw [←hw4,←z3];exact (Below.refl _ _).alloc (Nat.le_refl _) _
 have K4:Below lo w w4:=((k1.trans (k2.mono (by omega))).trans (k3.mono (by omega))).trans (k4.mono (by omega))
 have v1:=(((l1.below k2 (by omega)).below k3 (by omega)).below k4 (by omega)).cell 0
 have l3':=l3.below k4 (by omega)
 have v2:=l3'.cell 0
 have f2:=l3'.free 0
 have v3:=l4.cell 0
 have f3:=l4.free 0
 clear l1 k1 k2 k3 k4
 refine (callsIn_wide (n:=0)).1 ?_
 refine callsIn_of_wp_marks Tryz.func41 rfl trivial ?_ rfl
 simp only [Tryz.ntmps41,List.size_toArray,List.length_cons,List.length_nil,Nat.reduceAdd,Nat.reduceSub,Array.replicate_succ,Array.replicate_zero,List.push_toArray,List.append_toArray,List.nil_append,List.cons_append]
 gi_wp2
 obtain ⟨W2,hW2⟩:∃W2,(w4.setCell ⟨lo+2,0,none⟩ (.int .i64 0)).setCell ⟨lo+3,0,none⟩ (.int .i64 0)=W2:=⟨_,rfl⟩
 have g2:W2.cell? ⟨lo+2,0,none⟩=some (.int .i64 0):=by rw [←hW2];exact ((l3'.put 0 _).far (p:=⟨lo+3,0,none⟩) (by show lo+2≠lo+3;omega) _).cell 0
 have g3:W2.cell? ⟨lo+3,0,none⟩=some (.int .i64 0):=by rw [←hW2];exact ((l4.far (p:=⟨lo+2,0,none⟩) (by show lo+3≠lo+2;omega) _).put 0 _).cell 0
 have gz:W2.heap.size=lo+4:=by rw [←hW2];simp [World.setCell];exact z4
 have gb:Below lo w W2:=by
  rw [←hW2]
  exact (K4.setCell (p:=⟨lo+2,0,none⟩) (by show lo≤lo+2;omega) _).setCell (p:=⟨lo+3,0,none⟩) (by show lo≤lo+3;omega) _
 have hMM:Marks (lo+4) W2.heap.size [] W2:=trivial
 rw [hW2]
 exact hMM.out (by omega) fun w' hw'=>by
  have q2:w'.cell? ⟨lo+2,0,none⟩=some (.int .i64 0):=(hw'.cell (p:=⟨lo+2,0,none⟩) (by show lo+2 < lo+4;omega)).trans g2
  have q3:w'.cell? ⟨lo+3,0,none⟩=some (.int .i64 0):=(hw'.cell (p:=⟨lo+3,0,none⟩) (by show lo+3 < lo+4;omega)).trans g3
  exact ⟨.tuple #[.int .i64 0,.int .i64 0],by simp [results,Tryz.results41,go_sem,q2,q3],rfl,gb.trans (hw'.mono (by omega))⟩
theorem fdPlaces_nil (A:Option Addr) (m c:Nat) (w:World) (hm:m≤9223372036854775807):Calls Tryz.prog 38 #[.pointer none,.slice A m c] w fun e w'=>e=.returned (.slice none 0 0)∧Below w.heap.size w w':=by
 have HR:=Lib.hid (fdRange_nil A m c w)
 by_cases h0:m=0
 · subst h0
   go_enter Tryz.func38,Tryz.ntmps38
   go_wp2_with fail
   go_ret
   exact ⟨rfl,Below.refl _ _⟩
 · have g0:((m:Int)==0)=false:=by rw [beq_eq_false_iff_ne];omega
   go_enter Tryz.func38,Tryz.ntmps38
   go_wp2_with fail
   refine HR.out.mono ?_
   rintro e w1 ⟨rfl,hb⟩
   have HB:=Lib.hid hb
   clear hb
   go_wp2_with fail
   go_ret
   exact ⟨rfl,HB.out⟩
def FndAt (B:Nat) (w:World) (v:Value) (n:Nat) (T:Nat→Int) (s:Nat→Nat) (al k:Nat):Prop:=∃g a,v=.pointer (some ⟨g,0,none⟩)∧Fd w B g n T s al k a
end Go.Proofs.YtcidobpbepeakaaGreat
