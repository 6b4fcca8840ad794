/- Texts of ours, joined: BstTop IdxPart. -/
import Derived.Test.YtcidobpbepeakaaGreatB41
import Derived.Deep.LoopGhost
import Derived.Test.YtcidobpbepeakaaGreatB03
import Derived.Test.YtcidobpbepeakaaGreatB04
import Derived.Test.YtcidobpbepeakaaGreatB39
import Derived.Test.YtcidobpbepeakaaGreatB42
import Derived.Test.YtcidobpbepeakaaGreatB28
import Derived.Test.YtcidobpbepeakaaGreatB45
import Derived.Test.YtcidobpbepeakaaGreatB34
import Derived.Test.YtcidobpbepeakaaGreatB35
set_option maxRecDepth 1000000
set_option maxHeartbeats 6400000
namespace Go.Proofs.YtcidobpbepeakaaGreat
open Go.RowKit
open Pl (cnt)
def vcellsI (X:Nat→Value):Nat→List Value
 | 0=>[]
 | k+1=>vcellsI X k++[.iface 116 (X k)]
theorem vcellsI_len (X:Nat→Value):∀k,(vcellsI X k).length=k
 | 0=>rfl
 | k+1=>by
   show (vcellsI X k++_).length=_
   rw [List.length_append,vcellsI_len X k]
   rfl
theorem vcellsI_at (X:Nat→Value):∀k j,j < k→(vcellsI X k)[j]?=some (.iface 116 (X j))
 | 0,j,h=>absurd h (Nat.not_lt_zero j)
 | k+1,j,h=>by
   have hl:=vcellsI_len X k
   show (vcellsI X k++_)[j]?=_
   by_cases e:j=k
   · subst e
     rw [List.getElem?_append_right (by omega),hl,Nat.sub_self]
     rfl
   · rw [List.getElem?_append_left (by omega)]
     exact vcellsI_at X k j (by omega)
theorem info_bits:(Tryz.prog.info? 219).map (fun i=>(i.zero,i.size,i.bytes))=some (some .nilIface,1,16):=by kernel_rfl
section
variable {w w' wr:World} {B H H' g gl cl n W A Z m k:Nat} {lv v:Value} {V:Nat→Int} {Q:Nat→Pt} {X:Nat→Value}
structure NwB (w2 wr:World) (g k:Nat) (X:Nat→Value) (lv:Value):Prop where
 head:Lies wr g 163 [lv,.slice none 0 0]
 row:wr.ownsRow w2.heap.size 219 1 lv k (vcellsI X k)
 off:OffB (fun q=>q=g∨w2.heap.size≤q) w2 wr
theorem NwB.next {w2 w5:World} {gg cap:Nat} (h:NwB w2 wr g k X lv) (hown:w5.ownsRow w2.heap.size 219 1 (.slice (some ⟨gg,0,none⟩) (k+1) cap) (k+1) (vcellsI X k++[.iface 116 (X k)])) (hg:wr.grownBy w5 lv.ownBlock):NwB w2 (w5.setCell ⟨g,0,none⟩ (.slice (some ⟨gg,0,none⟩) (k+1) cap)) g (k+1) X (.slice (some ⟨gg,0,none⟩) (k+1) cap):=by
 have hl5:=h.head.grown hg (Ne.symm (owns_offB h.row h.head (by decide)))
 have hput:=grownBy_put (g:=g) (grownBy_of_below (Below.refl w5.heap.size w5) (some g)) 0 (.slice (some ⟨gg,0,none⟩) (k+1) cap)
 refine ⟨hl5.put 0 _,hown.kept hput (.inr (owns_offB hown hl5 (by decide))),?_⟩
 refine (h.off.trans (OffB.of_grown hg) fun q hq=>.inl (.inr (h.row.lt q hq).1)).setCell (p:=⟨g,0,none⟩) (.inl rfl) _
theorem bsLay_noI (w:World) (x y:Int) (hab:¬x < y):Calls Tryz.prog 104 #[.pointer (some ⟨g,0,none⟩),.agg #[.int .i64 0,.int .i64 0,.int .i64 x,.int .i64 y]] w fun e w'=>e=.returned (.tuple #[])∧Below w.heap.size w w':=by
 go_enter Tryz.func104,Tryz.ntmps104
 go_wp2_with fail
 go_returns
 exact ⟨rfl,(Below.refl _ _).alloc (Nat.le_refl _) _⟩
theorem NwB.sr {w2:World} (h:NwB w2 w' g W X lv) (hd:n≤4194303∧1≤W∧W≤22∧A≤Z∧Z≤n) (hl2:Lies w2 g 163 [.slice none 0 0,.slice none 0 0]) (hx:∀k,k < W→VcAt B w2 (X k) n (levBit V n W k)) (hB:B≤g):∃gl cl,lv=.slice (some ⟨gl,0,none⟩) W cl∧Sr w' B g w'.heap.size g gl cl n W A Z V (.slice none 0 0) 0 (fun _=>⟨0,0,0,0⟩):=by
 have hrow:=h.row
 rcases hrow.2 with ⟨e,h0⟩ | ⟨gl,cap,cur,e,h1,h2,h3,h4,_⟩
 · omega
 · refine ⟨gl,cap,e,?_⟩
   subst e
   have hgl:gl < w'.heap.size:=(Array.getElem?_eq_some_iff.1 h2).1
   have hlt:=h.head.lt
   have hlt2:=hl2.lt
   refine ⟨⟨h.head,World.ownsRow_nil _ _ _ _⟩,fun c h1 h2=>by omega,⟨w',⟨⟨_,h.head⟩,⟨h3,h4⟩,fun k hk=>?_,hgl⟩,rfl,fun _ _ _ _=>rfl⟩,⟨hB,Nat.le_refl _,hlt,by omega,hgl,by omega,Nat.le_refl _⟩,hd,fun j hj=>absurd hj (Nat.not_lt_zero j),Nat.zero_le _⟩
   obtain ⟨gv,gw,av,ws,e1,hv⟩:=hx k hk
   refine ⟨gv,gw,av,ws,?_,hv.keepX hl2 h.off.size fun q _ hq hne=>h.off.block q hq fun e=>by omega⟩
   rw [hrow.cellAt k (by omega),vcellsI_at X W k hk,e1]
def BsNewPost (w:World) (B n W A Z:Nat) (V:Nat→Int) (e:Ending) (w':World):Prop:=∃H' gl cl v m Q,e=.returned (.pointer (some ⟨w.heap.size,0,none⟩))∧Sr w' B w.heap.size H' w.heap.size gl cl n W A Z V v m Q∧partsP W Q m=startP (partL V (A:Int) (Z:Int) n) W∧Below w.heap.size w w'
theorem BsNewPost.yes {w3:World} {H':Nat} {Q0:Nat→Pt} (S:Sr w3 B w.heap.size H' w.heap.size gl cl n W A Z V (.slice none 0 0) 0 Q0) (hb:Below w.heap.size w w3) (hAZ:A < Z) (hok:PtOk V n W A Z ⟨0,0,A,Z⟩) (hp:PushPost w3 H' w.heap.size (.slice (some ⟨gl,0,none⟩) W cl) (.slice none 0 0) 0 Q0 ⟨0,0,A,Z⟩ w'):BsNewPost w B n W A Z V (.returned (.pointer (some ⟨w.heap.size,0,none⟩))) w':=by
 obtain ⟨v',Q',h1,h2,h3,h4,h5⟩:=hp
 have hd:=S.dim
 have hq:Q' 0=⟨0,0,A,Z⟩:=by
  have h3:([Q' 0]:List Pt).Perm [(⟨0,0,A,Z⟩:Pt)]:=h3
  exact List.singleton_perm_singleton.1 h3
 refine ⟨H',gl,cl,v',1,Q',rfl,S.turn h4 h1 h2 (fun j hj=>?_) ?_,?_,?_⟩
 · obtain rfl:j=0:=by omega
   rw [hq]
   exact hok
 · show ((([]:List Pt)++[Q' 0]).map fun x=>x.b - x.a).sum≤n
   rw [hq]
   show Z - A+0≤n
   omega
 · show ([]++[Q' 0]).map (toP W)=_
   rw [hq]
   unfold startP
   rw [if_neg (fun e=>by
    have h:=partL_count (V:=V) (p:=A) (q:=Z) (n:=n) (by omega) (by omega)
    rw [e] at h
    have h:0=Z - A:=h
    omega)]
   rfl
 · have hs:=hb.size
   refine hb.trans ⟨h4.os,h4.tape,h4.output,h4.size,fun k hk=>h4.block k (by omega) fun e=>?_⟩
   rcases e with e | e
   · omega
   · cases e
theorem BsNewPost.no {w3:World} {H':Nat} {Q0:Nat→Pt} (S:Sr w3 B w.heap.size H' w.heap.size gl cl n W A Z V (.slice none 0 0) 0 Q0) (hb:Below w.heap.size w w3) (hAZ:¬A < Z) (hb2:Below w3.heap.size w3 w'):BsNewPost w B n W A Z V (.returned (.pointer (some ⟨w.heap.size,0,none⟩))) w':=by
 have hd:=S.dim
 refine ⟨H',gl,cl,_,0,Q0,rfl,S.below hb2,?_,hb.trans (hb2.mono hb.size)⟩
 unfold startP
 rw [if_pos]
 · rfl
 · apply List.eq_nil_of_length_eq_zero
   rw [partL_count (by omega) (by omega)]
   omega
theorem vc_ptr {w:World} {x:Value} {f:Nat→Bool} (h:VcAt B w x n f):∃gv,x=.pointer (some ⟨gv,0,none⟩):=by
 obtain ⟨gv,gw,av,ws,e,_⟩:=h
 exact ⟨gv,e⟩
theorem bsNew_any {gm glm clm mm:Nat} (h:Mx w B gm glm clm n V mm) (hf:n≤4194303) (a b:Int) (ha1: -9223372036854775808≤a) (ha2:a≤9223372036854775807) (hb1: -9223372036854775808≤b) (hb2:b≤9223372036854775807):Calls Tryz.prog 61 #[.pointer (some ⟨gm,0,none⟩),.int .i64 a,.int .i64 b] w (BsNewPost w B n (widthN mm) (Pl.clamp (Pl.clamp n b) a) (Pl.clamp n b) V):=by
 obtain ⟨i0,hi0,hz0,hs0,hb0⟩:=info_parts info_bits
 have hw22:=h.w22
 have hBl:=h.lo.1
 have hgm:=h.head.lt
 have hroom:=h.room
 obtain ⟨W,hW⟩:∃W,widthN mm=W:=⟨_,rfl⟩
 obtain ⟨Z,hZ⟩:∃Z,Pl.clamp n b=Z:=⟨_,rfl⟩
 obtain ⟨A,hA⟩:∃A,Pl.clamp Z a=A:=⟨_,rfl⟩
 have hZn:Z≤n:=hZ▸Pl.clamp_le _ _
 have hAZ:A≤Z:=hA▸Pl.clamp_le _ _
 have hba:Below w.heap.size w (w.alloc (.cells #[.slice none 0 0,.slice none 0 0] 163)):=(Below.refl _ _).alloc (Nat.le_refl _) _
 have hlv:=wvLevels_any (h.keep hba)
 rw [hW] at hlv hw22 hroom
 rw [hZ,hA,hW]
 have HLv:=Lib.hid hlv
 have HM:=Lib.hid h
 have HB1:=Lib.hid hba
 have HL1:=Lib.hid (lies_new w 163 [.slice none 0 0,.slice none 0 0])
 have HD:Hid (n≤4194303∧1≤W∧W≤22∧A≤Z∧Z≤n):=Lib.hid ⟨hf,hw22.1,hw22.2,hAZ,hZn⟩
 have HCl:Hid (Pl.clamp n b=Z∧Pl.clamp Z a=A):=Lib.hid ⟨hZ,hA⟩
 have HRm:=Lib.hid hroom
 clear h hba hlv hroom hZ hA hW
 go_enter Tryz.func61,Tryz.ntmps61
 go_wp2_with fail
 with_reducible refine HLv.out.mono ?_
 rintro e w2 ⟨⟨A2,c2,rfl,hx⟩,hb2'⟩
 obtain ⟨ad,_,rfl,_⟩:=hx 0 (by omega)
 have hx:∀k,k < W→ad.block < w2.heap.size∧∃x,w2.cell? (ad.add k)=some x∧VcAt B w2 x n (levBit V n W k):=fun k hk=>by
  obtain ⟨ad',x,e,q1,q2,q3⟩:=hx k hk
  cases e
  exact ⟨q1,x,q2,q3⟩
 obtain ⟨lb,lo,rfl⟩:∃lb lo,ad=⟨lb,lo,none⟩:=by
  obtain ⟨_,x,q2,_⟩:=hx 0 (by omega)
  rw [Addr.add_zero'] at q2
  obtain ⟨lb,lo,sp⟩:=ad
  refine ⟨lb,lo,?_⟩
  unfold World.cell? at q2
  dsimp only at q2
  cases sp with
  | none=>rfl
  | some y=>
    split at q2
    · rw [if_pos (show (some y).isSome=true from rfl)] at q2
      cases q2
    · cases q2
 obtain ⟨X,hX⟩:∃X:Nat→Value,∀k,k < W→w2.cell? ⟨lb,lo+k,none⟩=some (X k)∧VcAt B w2 (X k) n (levBit V n W k):=⟨fun k=>(w2.cell? ⟨lb,lo+k,none⟩).getD (.bool false),fun k hk=>by
  obtain ⟨_,x,q2,q3⟩:=hx k hk
  rw [Addr.add_mid] at q2
  have e:(w2.cell? ⟨lb,lo+k,none⟩).getD (.bool false)=x:=by rw [q2];rfl
  show _=some ((w2.cell? ⟨lb,lo+k,none⟩).getD (.bool false))∧VcAt B w2 ((w2.cell? ⟨lb,lo+k,none⟩).getD (.bool false)) n (levBit V n W k)
  rw [e]
  exact ⟨q2,q3⟩⟩
 have hlb:=(hx 0 (by omega)).1
 have hbw:Below w.heap.size w w2:=HB1.out.trans (hb2'.mono HB1.out.size)
 have hl2:=HL1.out.below hb2' HL1.out.lt
 have hlbne:lb≠w.heap.size:=fun e=>by
  obtain ⟨q2,q3⟩:=hX 0 (by omega)
  obtain ⟨gv,e3⟩:=vc_ptr q3
  rw [e3,e,hl2.cell] at q2
  rcases hh:lo+0 with _ | _ | u
  · rw [hh] at q2
    cases q2
  · rw [hh] at q2
    cases q2
  · rw [hh] at q2
    cases q2
 obtain ⟨g,hg⟩:∃g,w.heap.size=g:=⟨_,rfl⟩
 rw [hg] at hlbne hl2
 have hgl2:=hl2.lt
 have HX:=Lib.hid hX
 have HW2:=Lib.hid hbw
 have HL2:=Lib.hid hl2
 have HG:=Lib.hid hg
 have hlb':lb < w2.heap.size:=hlb
 have HST:Hid (NwB w2 w2 g 0 X (.slice none 0 0)):=Lib.hid ⟨hl2,World.ownsRow_nil _ _ _ _,OffB.refl _ _⟩
 rw [hg]
 clear hg hX hbw hl2 hb2' hx hlb HLv HL1
 go_wp2_with fail
 go_loopw [15] (fun s wr=>∃(k:Nat) (lv:Value),k≤W∧s=.int .i64 (k:Int)∧Hid (NwB w2 wr g k X lv)) (fun s _=>W - (intOf s).toNat)
 case atStart=>exact ⟨0,_,Nat.zero_le _,rfl,HST⟩
 case round=>
  clear HST
  obtain ⟨k,lv,hk,rfl,hN⟩:=hrel
  by_cases hlt:k < W
  · have hlti:(k:Int) < (W:Int):=by omega
    obtain ⟨q2,q3⟩:=HX.out k hlt
    obtain ⟨gv,e3⟩:=vc_ptr q3
    rw [e3] at q2
    have hXk:=Lib.hid e3
    have hsz:=hN.out.off.size
    have q4:wr.cell? ⟨lb,lo+k,none⟩=some (.pointer (some ⟨gv,0,none⟩)):=(cell_of_heap (hN.out.off.block lb hlb' fun e=>by omega)).trans q2
    have hc0:wr.cell? ⟨g,0,none⟩=some lv:=hN.out.head.cell 0
    have hne:=owns_offB hN.out.row hN.out.head (by decide)
    have lg:=hN.out.head.lt
    have i1:IntKind.i64.wrap ((k:Int)+1)=((k+1:Nat):Int):=by rw [IntWalk.i64_in _ (by omega)];omega
    clear q2 q3 e3
    go_wp2_with (at_builtin;refine wpList_append_lies _ rfl (.tmp 23) (.tmp 26) 159 rfl w2.heap.size 219 i0 _ 1 16 Tryz.underlying159 hi0 hz0 hs0 hb0 rfl (by decide) lv k (vcellsI X k) rfl (hN.out.row.alloc _) ⟨wr.heap.size,0,none⟩ 1 1 [.iface 116 (.pointer (some ⟨gv,0,none⟩))] rfl rfl (World.news_of_block (cs:=#[.iface 116 (.pointer (some ⟨gv,0,none⟩))]) (t:=219) (fr:=(0,0)) (heap_alloc_new wr _)) (by simp [Value.oneCell']) (by decide) (by unfold maxLen;omega) (by omega) (by rw [size_alloc];omega) (wr.heap.size+1) (by rw [size_alloc]) ?_;intro gg cap w5 hown5 hgrow5 hat5 hlt5;have hga:=grownBy_trans (World.grownBy_alloc wr _ _) hgrow5;have hd5:=hN.out.head.grown hga (Ne.symm hne);have hcx:w5.cell? ⟨g,0,none⟩=some lv:=hd5.cell 0;have hfz:=hd5.free 0;have HN5:=Lib.hid (hN.out.next (hXk.out.symm▸hown5) hga);clear hown5 hgrow5 hat5 hlt5 hga hd5)
    go_roundw
    case rel=>exact ⟨k+1,_,by omega,by go_num,HN5⟩
    case measure=>simp [intOf];omega
  · obtain rfl:k=W:=by omega
    have hge:¬(k:Int) < (k:Int):=by omega
    have HF:=Lib.hid (hN.out.sr HD.out HL2.out (fun j hj=>(HX.out j hj).2) (by have:=HG.out;omega:B≤g))
    obtain ⟨gl,cl,e,hS⟩:=HF.out
    subst e
    have hsz:=hN.out.off.size
    have HB3:Hid (Below g w wr):=Lib.hid (HG.out▸HW2.out.trans ⟨hN.out.off.os,hN.out.off.tape,hN.out.off.output,hN.out.off.size,fun q hq=>hN.out.off.block q (by have:=HG.out;omega) fun e=>by have:=HG.out;omega⟩)
    have HLen:=Lib.hid (wvLen_any (HM.out.keep (HG.out.symm▸HB3.out)))
    have HLy:Hid (∀(w4:World),Below wr.heap.size wr w4→∀x y:Int,x=max a 0→y=min b (n:Int)→Calls Tryz.prog 104 #[.pointer (some ⟨g,0,none⟩),.agg #[.int .i64 0,.int .i64 0,.int .i64 x,.int .i64 y]] w4 fun e w'=>e=.returned (.tuple #[])∧BsNewPost w B n k A Z V (.returned (.pointer (some ⟨g,0,none⟩))) w'):=Lib.hid fun w4 hb4 x y hx hy=>by
     have hcl:=HCl.out
     have hg:=HG.out
     subst hg
     have hS4:=hS.below hb4
     have hB4:=HB3.out.trans (hb4.mono HB3.out.size)
     by_cases hxy:x < y
     · have hxA:x=(A:Int)∧y=(Z:Int)∧A < Z:=by
        unfold Pl.clamp at hcl
        omega
       obtain ⟨rfl,rfl,hlt2⟩:=hxA
       have hok:PtOk V n k A Z ⟨0,0,A,Z⟩:=⟨Nat.zero_le _,⟨0,(Int.zero_mul _).symm,by decide,(by decide:(0:Int) < 2^0),Nar.start (Nat.le_of_lt hlt2) hZn HRm.out⟩,hlt2⟩
       refine (bsLay_yes hS4.hp hS4.ord.2.2.2.2.2.2 (by decide) hS4.fine hS4.heap ⟨0,0,A,Z⟩ ⟨Nat.le_of_lt hlt2,by show Z≤4194304;omega⟩ hlt2).mono ?_
       rintro e w5 ⟨rfl,hp⟩
       exact ⟨rfl,BsNewPost.yes hS4 hB4 hlt2 hok hp⟩
     · have hno:¬A < Z:=by
        unfold Pl.clamp at hcl
        omega
       refine (bsLay_noI w4 x y hxy).mono ?_
       rintro e w5 ⟨rfl,hb5⟩
       exact ⟨rfl,BsNewPost.no hS4 hB4 hno hb5⟩
    clear HF hS HX HL2 HW2 HB3 hN
    go_upto_region 7 with (fail)
    by_cases h1:a < 0
    all_goals
     by_cases h2:b < (n:Int)
     all_goals
      go_wp2_with (first
       | (go_at_call 105;(with_reducible refine HLen.out.mono ?_);rintro e w4 ⟨rfl,rfl⟩)
       | (go_at_call 104;(with_reducible refine (HLy.out _ (Below.refl _ _) _ _ (by omega) (by omega)).mono ?_);rintro e w5 ⟨rfl,hp⟩))
      go_ret
      exact hp
end
end Go.Proofs.YtcidobpbepeakaaGreat
namespace Go.Proofs.YtcidobpbepeakaaGreat
open Go.RowKit
open Pl (cnt)
section
variable {w w' wr:World} {B H H' g gl cl n W A Z m m' I b0:Nat} {v v':Value} {V:Nat→Int} {Q Q':Nat→Pt} {T:List (Int×Nat)} {L:List Pt}
theorem Sr.best (S:Sr w B H H' g gl cl n W A Z V v (m+1) Q) (hT:(takeQ Q (m+1)).Perm (Q 0::L)) (hI:SInv W (partL V (A:Int) (Z:Int) n) (partsP W Q (m+1)) T I):SInv W (partL V (A:Int) (Z:Int) n) ([]++toP W (Q 0)::L.map (toP W)) T I∧∀q∈[]++L.map (toP W),BetP (partL V (A:Int) (Z:Int) n) (toP W (Q 0)) q:=by
 have hd:=S.dim
 have hP:(partsP W Q (m+1)).Perm ([]++toP W (Q 0)::L.map (toP W)):=hT.map (toP W)
 have hI2:=hI.perm hP
 refine ⟨hI2,fun q hq=>?_⟩
 rw [List.nil_append] at hq
 have hap:=hI2.apart
 rw [List.nil_append,List.pairwise_cons] at hap
 have hne:=(hap.1 q hq).ne
 rw [List.mem_map] at hq
 obtain ⟨y,hy,rfl⟩:=hq
 obtain ⟨j,hj,e⟩:=takeQ_mem.1 (hT.mem_iff.2 (List.mem_cons_of_mem _ hy))
 have h1:=S.heap.top j hj
 have hb:=(S.ok j hj).ahd (S.ok 0 (Nat.succ_pos m)) hd.2.2.2.1 hd.2.2.2.2
 rw [e] at h1 hb
 have hn:¬BetP (partL V (A:Int) (Z:Int) n) (toP W y) (toP W (Q 0)):=fun h=>h1 (hb.1 h)
 unfold BetP at*
 omega
theorem Sr.told (S:Sr w B H H' g gl cl n W A Z V v (m+1) Q) (hT:(takeQ Q (m+1)).Perm (Q 0::takeQ Q' m)) (hW:(Q 0).lv=W) (hI:SInv W (partL V (A:Int) (Z:Int) n) (partsP W Q (m+1)) T I):SInv W (partL V (A:Int) (Z:Int) n) (partsP W Q' m) (T++[((Q 0).le,(Q 0).b - (Q 0).a)]) I:=by
 have hd:=S.dim
 obtain ⟨h1,h2⟩:=S.best hT hI
 have h3:=h1.tell h2 (by show W - (Q 0).lv=0;omega)
 rw [(S.ok 0 (Nat.succ_pos m)).cnt hd.2.2.2.1 hd.2.2.2.2] at h3
 exact h3
theorem Sr.halved (S:Sr w B H H' g gl cl n W A Z V v (m+1) Q) (hT:(takeQ Q (m+1)).Perm (Q 0::L)) (hT2:(takeQ Q' m').Perm (L++laidH V n W (Q 0) 2)) (hW:(Q 0).lv < W) (hI:SInv W (partL V (A:Int) (Z:Int) n) (partsP W Q (m+1)) T I):SInv W (partL V (A:Int) (Z:Int) n) (partsP W Q' m') T (I+1):=by
 have hd:=S.dim
 obtain ⟨h1,_⟩:=S.best hT hI
 have h3:=h1.half (show 0 < (toP W (Q 0)).2 by show 0 < W - (Q 0).lv;omega)
 rw [(S.ok 0 (Nat.succ_pos m)).halves hd.2.2.2.1 hd.2.2.2.2 hW,List.nil_append] at h3
 refine h3.perm ?_
 have h4:=hT2.map (toP W)
 rw [List.map_append] at h4
 have e:laidH V n W (Q 0) 2=laidQ V n W (Q 0) 0++laidQ V n W (Q 0) 1:=rfl
 rw [e] at h4
 exact List.perm_append_comm.trans h4.symm
structure NxIn (w wr:World) (B H H' g gl cl n W A Z:Nat) (V:Nat→Int) (v:Value) (T:List (Int×Nat)) (b0 I:Nat) (v':Value) (m':Nat) (Q':Nat→Pt):Prop where
 sr:Sr wr B H H' g gl cl n W A Z V v' m' Q'
 inv:SInv W (partL V (A:Int) (Z:Int) n) (partsP W Q' m') T I
 off:OffB (FT g v) w wr
 ft:∀k,FT g v' k→FT g v k∨w.heap.size≤k
 out:∀k,FT g v' k→k≠b0
 l0:Lies wr b0 60 [.int .i64 0,.int .i64 0]
theorem NxIn.turn {w2:World} {v2:Value} {m2:Nat} {Q2:Nat→Pt} {T2:List (Int×Nat)} {I2:Nat} (h:NxIn w wr B H H' g gl cl n W A Z V v T b0 I v' m' Q') (hs:Sr w2 B H H' g gl cl n W A Z V v2 m2 Q2) (hi:SInv W (partL V (A:Int) (Z:Int) n) (partsP W Q2 m2) T2 I2) (ho:OffB (FT g v') wr w2) (hf:∀k,FT g v2 k→FT g v' k∨wr.heap.size≤k):NxIn w w2 B H H' g gl cl n W A Z V v T2 b0 I2 v2 m2 Q2:=by
 have hlt:=h.l0.lt
 refine ⟨hs,hi,h.off.trans ho h.ft,fun k hk=>?_,fun k hk=>?_,ho.lies h.l0 fun hk=>(h.out _ hk) rfl⟩
 · rcases hf k hk with q | q
   · exact h.ft k q
   · exact .inr (Nat.le_trans h.off.size q)
 · rcases hf k hk with q | q
   · exact h.out k q
   · omega
theorem NxIn.below {w2:World} (h:NxIn w wr B H H' g gl cl n W A Z V v T b0 I v' m' Q') (hb:Below wr.heap.size wr w2):NxIn w w2 B H H' g gl cl n W A Z V v T b0 I v' m' Q':=h.turn (h.sr.below hb) h.inv (OffB.of_below hb) fun _ hk=>.inl hk
theorem NxIn.outw (h:NxIn w wr B H H' g gl cl n W A Z V v T b0 I v' m' Q') (hb:w.heap.size≤b0) (hHb:H'≤b0) (x y:Int) (o:Obj):Lies (((wr.setCell ⟨b0,0,none⟩ (.int .i64 x)).setCell ⟨b0,1,none⟩ (.int .i64 y)).alloc o) b0 60 [.int .i64 x,.int .i64 y]∧Sr (((wr.setCell ⟨b0,0,none⟩ (.int .i64 x)).setCell ⟨b0,1,none⟩ (.int .i64 y)).alloc o) B H H' g gl cl n W A Z V v' m' Q'∧OffB (FT g v) w (((wr.setCell ⟨b0,0,none⟩ (.int .i64 x)).setCell ⟨b0,1,none⟩ (.int .i64 y)).alloc o):=by
 have hz:=(h.l0.put 0 (.int .i64 x)).put 1 (.int .i64 y)
 have hoz:OffB (fun k=>k=b0) wr ((wr.setCell ⟨b0,0,none⟩ (.int .i64 x)).setCell ⟨b0,1,none⟩ (.int .i64 y)):=((OffB.refl (fun k=>k=b0) wr).setCell (p:=⟨b0,0,none⟩) rfl _).setCell (p:=⟨b0,1,none⟩) rfl _
 have hba:Below ((wr.setCell ⟨b0,0,none⟩ (.int .i64 x)).setCell ⟨b0,1,none⟩ (.int .i64 y)).heap.size ((wr.setCell ⟨b0,0,none⟩ (.int .i64 x)).setCell ⟨b0,1,none⟩ (.int .i64 y)) (((wr.setCell ⟨b0,0,none⟩ (.int .i64 x)).setCell ⟨b0,1,none⟩ (.int .i64 y)).alloc o):=(Below.refl _ _).alloc (Nat.le_refl _) _
 refine ⟨hz.alloc _,?_,(h.off.trans hoz fun k e=>.inr (by omega)).trans (OffB.of_below (F:=fun _=>False) hba) (fun _ h=>h.elim)⟩
 exact (h.sr.offb hoz (fun k hk e=>h.out k hk e) fun k e=>by rw [e];exact hHb).below hba
def NextPost (w:World) (B H H' g gl cl n W A Z:Nat) (V:Nat→Int) (v:Value) (T:List (Int×Nat)) (e:Ending) (w':World):Prop:=
 ∃v' m' Q' I',Sr w' B H H' g gl cl n W A Z V v' m' Q'∧OffB (FT g v) w w'∧(∀k,FT g v' k→FT g v k∨w.heap.size≤k)∧
   ((∃d:Int×Nat,e=.returned (.tuple #[.agg #[.int .i64 d.1,.int .i64 (d.2:Int)],.bool true])∧SInv W (partL V (A:Int) (Z:Int) n) (partsP W Q' m') (T++[d]) I')∨(m'=0∧e=.returned (.tuple #[noneP,.bool false])∧SInv W (partL V (A:Int) (Z:Int) n) [] T I'))
theorem bsNext_any (S:Sr w B H H' g gl cl n W A Z V v m Q) (hI:SInv W (partL V (A:Int) (Z:Int) n) (partsP W Q m) T I):Calls Tryz.prog 62 #[.pointer (some ⟨g,0,none⟩)] w (NextPost w B H H' g gl cl n W A Z V v T):=by
 have lg:=S.hp.head.lt
 have hb0:Below w.heap.size w (w.alloc (.cells #[.int .i64 0,.int .i64 0] 60)):=(Below.refl _ _).alloc (Nat.le_refl _) _
 have HST:Hid (NxIn w (w.alloc (.cells #[.int .i64 0,.int .i64 0] 60)) B H H' g gl cl n W A Z V v T w.heap.size I v m Q):=Lib.hid ⟨S.below hb0,hI,OffB.of_below hb0,fun _ h=>.inl h,fun k hk=>by
  rcases hk with hk | hk
  · omega
  · have:=(S.hp.row.lt k hk).2
    omega,lies_new w 60 [.int .i64 0,.int .i64 0]⟩
 obtain ⟨b0,hb⟩:∃b0,w.heap.size=b0:=⟨_,rfl⟩
 rw [hb] at HST
 have HB:=Lib.hid hb
 have HOr:Hid (H'≤b0):=Lib.hid (hb▸S.ord.2.2.2.2.2.2)
 clear S hI hb0
 obtain ⟨K,hK⟩:∃K,W*(partL V (A:Int) (Z:Int) n).length=K:=⟨_,rfl⟩
 have HK:=Lib.hid hK
 go_enter Tryz.func62,Tryz.ntmps62
 go_wp2_with fail
 clear hb hK
 go_loopg [] (K - I) (fun k wr=>∃(I':Nat) (v':Value) (m':Nat) (Q':Nat→Pt),k=K - I'∧Hid (NxIn w wr B H H' g gl cl n W A Z V v T b0 I' v' m' Q'))
 case atStart=>exact ⟨I,v,m,Q,rfl,HST⟩
 case round=>
  clear HST
  obtain ⟨I1,v1,m1,Q1,hgk,hN⟩:=hrel
  rcases m1 with _ | m1
  · have HS:=Lib.hid (bsStep_none hN.out.sr.hp)
    unfold stepV at HS
    have HN0:=Lib.hid hN.out
    go_wp2_with (go_at_call 106;(with_reducible refine HS.out.mono ?_);rintro e w2 ⟨rfl,hb2⟩;have HN2:=Lib.hid (HN0.out.below hb2);have hl0:=HN2.out.l0;have hlt2:=hl0.lt;have c0:w2.cell? ⟨b0,0,none⟩=some (.int .i64 0):=hl0.cell 0;have c1:w2.cell? ⟨b0,1,none⟩=some (.int .i64 0):=hl0.cell 1;have f0:=hl0.free 0;have f1:=hl0.free 1;clear hb2 hl0)
    obtain ⟨q1,q2,q3⟩:=HN2.out.outw (Nat.le_of_eq HB.out) HOr.out 0 0 (.cells #[.int .i64 0,.int .i64 0] 60)
    have z0:(((w2.setCell ⟨b0,0,none⟩ (.int .i64 0)).setCell ⟨b0,1,none⟩ (.int .i64 0)).alloc (.cells #[.int .i64 0,.int .i64 0] 60)).cell? ⟨b0,0,none⟩=some (.int .i64 0):=q1.cell 0
    have z1:(((w2.setCell ⟨b0,0,none⟩ (.int .i64 0)).setCell ⟨b0,1,none⟩ (.int .i64 0)).alloc (.cells #[.int .i64 0,.int .i64 0] 60)).cell? ⟨b0,1,none⟩=some (.int .i64 0):=q1.cell 1
    refine bodyPost_ret (v:=.tuple #[.agg #[.int .i64 0,.int .i64 0],.bool false]) (by simp [results,Tryz.results62,go_sem,z0,z1]) rfl ?_
    exact ⟨v1,0,Q1,I1,q2,q3,HN2.out.ft,.inr ⟨rfl,rfl,HN2.out.inv⟩⟩
  · have HNr:=Lib.hid hN.out
    by_cases hW:(Q1 0).lv=W
    · have HS:=Lib.hid (bsStep_tell hN.out.sr hW)
      unfold stepV at HS
      obtain ⟨d,hd⟩:∃d:Int×Nat,((Q1 0).le,(Q1 0).b - (Q1 0).a)=d:=⟨_,rfl⟩
      have hd1:(Q1 0).le=d.1:=by rw [←hd]
      have hd2:(Q1 0).b - (Q1 0).a=d.2:=by rw [←hd]
      have HT:Hid (∀Q2:Nat→Pt,(takeQ Q1 (m1+1)).Perm (Q1 0::takeQ Q2 m1)→SInv W (partL V (A:Int) (Z:Int) n) (partsP W Q2 m1) (T++[d]) I1):=Lib.hid fun Q2 h=>hd▸hN.out.sr.told h hW hN.out.inv
      rw [hd1,hd2] at HS
      obtain ⟨x,y⟩:=d
      dsimp only at HS
      clear hN hW hd hd1 hd2
      go_wp2_with (go_at_call 106;(with_reducible refine HS.out.mono ?_);rintro e w2 ⟨rfl,v2,Q2,s2,t2,o2,f2⟩;have HN2:=Lib.hid (HNr.out.turn s2 (HT.out Q2 t2) o2 f2);have hl0:=HN2.out.l0;have hlt2:=hl0.lt;have c0:w2.cell? ⟨b0,0,none⟩=some (.int .i64 0):=hl0.cell 0;have c1:w2.cell? ⟨b0,1,none⟩=some (.int .i64 0):=hl0.cell 1;have f0:=hl0.free 0;have f1:=hl0.free 1;clear s2 t2 o2 f2 hl0)
      obtain ⟨q1,q2,q3⟩:=HN2.out.outw (Nat.le_of_eq HB.out) HOr.out x (y:Int) (.cells #[.int .i64 x,.int .i64 (y:Int)] 60)
      have z0:(((w2.setCell ⟨b0,0,none⟩ (.int .i64 x)).setCell ⟨b0,1,none⟩ (.int .i64 (y:Int))).alloc (.cells #[.int .i64 x,.int .i64 (y:Int)] 60)).cell? ⟨b0,0,none⟩=some (.int .i64 x):=q1.cell 0
      have z1:(((w2.setCell ⟨b0,0,none⟩ (.int .i64 x)).setCell ⟨b0,1,none⟩ (.int .i64 (y:Int))).alloc (.cells #[.int .i64 x,.int .i64 (y:Int)] 60)).cell? ⟨b0,1,none⟩=some (.int .i64 (y:Int)):=q1.cell 1
      refine bodyPost_ret (v:=.tuple #[.agg #[.int .i64 x,.int .i64 (y:Int)],.bool true]) (by simp [results,Tryz.results62,go_sem,z0,z1]) rfl ?_
      exact ⟨v2,m1,Q2,I1,q2,q3,HN2.out.ft,.inl ⟨(x,y),rfl,HN2.out.inv⟩⟩
    · have hWl:(Q1 0).lv < W:=by
       have:=(hN.out.sr.ok 0 (Nat.succ_pos m1)).lv
       omega
      have HS:=Lib.hid (bsStep_half hN.out.sr hWl)
      unfold stepV at HS
      have HT:Hid (∀(L:List Pt) (m2:Nat) (Q2:Nat→Pt),(takeQ Q1 (m1+1)).Perm (Q1 0::L)→(takeQ Q2 m2).Perm (L++laidH V n W (Q1 0) 2)→SInv W (partL V (A:Int) (Z:Int) n) (partsP W Q2 m2) T (I1+1)):=Lib.hid fun L m2 Q2 h1 h2=>hN.out.sr.halved h1 h2 hWl hN.out.inv
      clear hN hW hWl
      go_wp2_with (go_at_call 106;(with_reducible refine HS.out.mono ?_);rintro e w2 ⟨rfl,v2,m2,Q2,L2,s2,t2,p2,o2,f2⟩;have HN2:=Lib.hid (HNr.out.turn s2 (HT.out L2 m2 Q2 t2 p2) o2 f2);clear s2 t2 p2 o2 f2)
      have hfew:=HN2.out.inv.few.1
      rw [HK.out] at hfew
      go_roundg (K - (I1+1))
      case measure=>omega
      case rel=>exact ⟨I1+1,v2,m2,Q2,rfl,Lib.hid (HN2.out.below ((Below.refl _ _).alloc (Nat.le_refl _) _))⟩
end
end Go.Proofs.YtcidobpbepeakaaGreat
namespace Go.Proofs.YtcidobpbepeakaaGreat
open Go.RowKit
open Pl (cnt)
section
variable {w w' wr:World} {B H H' g gl cl n W A Z:Nat} {lv:Value} {V:Nat→Int} {T D:List (Int×Nat)}
def TpIn (w wr:World) (B H H' g gl cl n W A Z:Nat) (V:Nat→Int) (lv:Value) (T D:List (Int×Nat)):Prop:=∃v m Q I,Sr wr B H H' g gl cl n W A Z V v m Q∧SInv W (partL V (A:Int) (Z:Int) n) (partsP W Q m) T I∧wr.ownsRow H' 60 2 lv D.length (prcells D)∧Below H w wr
theorem Sr.low {v:Value} {m:Nat} {Q:Nat→Pt} (S:Sr wr B H H' g gl cl n W A Z V v m Q):∀k,FT g v k→H≤k:=fun k hk=>by
 have ho:=S.ord
 rcases hk with hk | hk
 · omega
 · have:=(S.hp.row.lt k hk).1
   omega
theorem TpIn.next {v:Value} {m:Nat} {Q:Nat→Pt} {T':List (Int×Nat)} {v':Value} {m':Nat} {Q':Nat→Pt} {I':Nat} (S:Sr wr B H H' g gl cl n W A Z V v m Q) (hr:wr.ownsRow H' 60 2 lv D.length (prcells D)) (hb:Below H w wr) (S':Sr w' B H H' g gl cl n W A Z V v' m' Q') (ho:OffB (FT g v) wr w') (hI:SInv W (partL V (A:Int) (Z:Int) n) (partsP W Q' m') T' I'):TpIn w w' B H H' g gl cl n W A Z V lv T' D:=by
 refine ⟨v',m',Q',I',S',hI,owns_sameK hr fun k hk=>ho.block k (hr.lt k hk).2 fun hf=>?_,?_⟩
 · rcases hf with hf | hf
   · exact owns_offB hr S.hp.head (by decide) (by rw [hk,hf])
   · rcases owns_unlike hr S.hp.row (by decide) with q | q
     · rw [q] at hk
       cases hk
     · exact q (by rw [hk,hf])
 · have hs:=S.ord
   exact hb.trans ⟨ho.os,ho.tape,ho.output,ho.size,fun k hk=>ho.block k (by omega) fun hf=>by have:=S.low k hf;omega⟩
theorem TpIn.below {w2:World} (h:TpIn w wr B H H' g gl cl n W A Z V lv T D) (hb:Below wr.heap.size wr w2):TpIn w w2 B H H' g gl cl n W A Z V lv T D:=by
 obtain ⟨v,m,Q,I,h1,h2,h3,h4⟩:=h
 exact ⟨v,m,Q,I,h1.below hb,h2,owns_sameK h3 fun k hk=>hb.block k (h3.lt k hk).2,h4.trans (hb.mono (by have:=h1.ord;omega))⟩
theorem TpIn.app {w5:World} {lv':Value} {D':List (Int×Nat)} (h:TpIn w wr B H H' g gl cl n W A Z V lv T D) (hown:w5.ownsRow H' 60 2 lv' D'.length (prcells D')) (hg:wr.grownBy w5 lv.ownBlock):TpIn w w5 B H H' g gl cl n W A Z V lv' T D':=by
 obtain ⟨v,m,Q,I,h1,h2,h3,h4⟩:=h
 have ho:=OffB.of_grown hg
 have hs:=h1.ord
 refine ⟨v,m,Q,I,h1.offb ho (fun k hf hk=>?_) fun k hk=>(h3.lt k hk).1,h2,hown,h4.trans ⟨ho.os,ho.tape,ho.output,ho.size,fun k hk=>ho.block k (by omega) fun hf=>by have:=(h3.lt k hf).1;omega⟩⟩
 rcases hf with hf | hf
 · exact owns_offB h3 h1.hp.head (by decide) (by rw [hk,hf])
 · rcases owns_unlike h3 h1.hp.row (by decide) with q | q
   · rw [q] at hk
     cases hk
   · exact q (by rw [hk,hf])
theorem TpIn.few (h:TpIn w wr B H H' g gl cl n W A Z V lv T D):T.length≤n∧n≤4194303:=by
 obtain ⟨v,m,Q,I,h1,h2,_⟩:=h
 have hd:=h1.dim
 have h3:=h2.few.2
 rw [partL_count hd.2.2.2.1 hd.2.2.2.2] at h3
 omega
theorem TpIn.small (h:TpIn w wr B H H' g gl cl n W A Z V lv T D):∀d∈T,d.2≤4194304:=fun d hd=>by
 obtain ⟨v,m,Q,I,h1,h2,_⟩:=h
 have hdm:=h1.dim
 have h3:=(h2.many d hd).1
 have h4:(partL V (A:Int) (Z:Int) n).countP (fun x=>decide (x=d.1))≤(partL V (A:Int) (Z:Int) n).length:=List.countP_le_length
 rw [partL_count hdm.2.2.2.1 hdm.2.2.2.2] at h4
 omega
def TopOk (w:World) (l:List Int) (k:Int) (e:Ending) (w':World):Prop:=(∃(A:Option Addr) (c:Nat) (T:List (Int×Nat)),e=.returned (.slice A T.length c)∧(T.length≤c∧c≤maxLen)∧(∃R,BestOf l R∧T=R.take k.toNat)∧PrsR w' A T)∧Below w.heap.size w w'
theorem TpIn.done {k:Int} (h:TpIn w wr B w.heap.size H' g gl cl n W A Z V lv T T) (hk:T.length≤k.toNat) (hend:T.length=k.toNat∨∃I,SInv W (partL V (A:Int) (Z:Int) n) [] T I):TopOk w (partL V (A:Int) (Z:Int) n) k (.returned lv) wr:=by
 have hf:=h.few
 have hs:=h.small
 obtain ⟨v,m,Q,I,h1,h2,h3,h4⟩:=h
 obtain ⟨A2,c,e,hp⟩:=PrsR.of_own h3 (by omega) hs
 refine ⟨⟨A2,c,T,by rw [e],?_,?_,hp⟩,h4⟩
 · subst e
   exact owns_room2' h3
 · rcases hend with q | ⟨I2,q⟩
   · obtain ⟨R,r1,r2⟩:=SInv.whole _ (Nat.le_refl _) h2
     exact ⟨R,r1,by rw [←q,r2]⟩
   · exact ⟨T,q.done.1,(List.take_of_length_le hk).symm⟩
def hsLen:Value→Nat
 | .slice _ n _=>n
 | _=>0
theorem bsTop_any {gm glm clm mm:Nat} (h:Mx w B gm glm clm n V mm) (hn:n≤4194303) (a b k:Int) (ha1: -9223372036854775808≤a) (ha2:a≤9223372036854775807) (hb1: -9223372036854775808≤b) (hb2:b≤9223372036854775807):Calls Tryz.prog 37 #[.pointer (some ⟨gm,0,none⟩),.int .i64 a,.int .i64 b,.int .i64 k] w (TopOk w (partL V a b n) k):=by
 obtain ⟨i0,hi0,hz0,hs0,hb0⟩:=info_parts info_pair
 have HNw:=Lib.hid (bsNew_any h hn a b ha1 ha2 hb1 hb2)
 have hroom:=h.room
 have hpt:=clamp_part V a b n n (Nat.le_refl _)
 rw [hpt]
 have hBn:=Pl.clamp_le n b
 have hAB:=Pl.clamp_le (Pl.clamp n b) a
 generalize Pl.clamp (Pl.clamp n b) a=A at hAB HNw ⊢
 generalize Pl.clamp n b=Z at hAB hBn HNw ⊢
 generalize widthN mm=W at HNw hroom
 have HSt:Hid (SInv W (partL V (A:Int) (Z:Int) n) (startP (partL V (A:Int) (Z:Int) n) W) [] 0):=Lib.hid (SInv.start fun x hx=>by
  obtain ⟨j,hj,_,_,e⟩:=mem_partL.1 hx
  rw [←e]
  exact hroom j hj)
 obtain ⟨H,hH⟩:∃H,w.heap.size=H:=⟨_,rfl⟩
 have HHe:=Lib.hid hH
 clear h hpt hroom
 go_enter Tryz.func37,Tryz.ntmps37
 go_wp2_with (go_at_call 61;(with_reducible refine HNw.out.mono ?_);rintro e w1 ⟨H',gl,cl,v1,m1,Q1,rfl,s1,p1,bw1⟩;have HST:Hid (TpIn w w1 B w.heap.size H' w.heap.size gl cl n W A Z V (.slice none 0 0) [] []):=Lib.hid ⟨v1,m1,Q1,0,s1,by rw [p1];exact HSt.out,World.ownsRow_nil _ _ _ _,bw1⟩;have lg:=s1.hp.head.lt;clear s1 p1 bw1)
 clear HNw HSt
 go_loopw [9] (fun s wr=>∃(T:List (Int×Nat)) (A2:Option Addr) (c2:Nat),s=.slice A2 T.length c2∧Hid (T.length≤k.toNat)∧Hid (TpIn w wr B w.heap.size H' w.heap.size gl cl n W A Z V (.slice A2 T.length c2) T T)) (fun s _=>k.toNat - hsLen s)
 case atStart=>exact ⟨[],none,0,rfl,Lib.hid (Nat.zero_le _),HST⟩
 case round=>
  clear HST
  obtain ⟨T,A2,c2,rfl,hTk,hI⟩:=hrel
  have HI:=Lib.hid hI.out
  by_cases hlt:(T.length:Int) < k
  · have hlt2:T.length < k.toNat:=by omega
    obtain ⟨v1,m1,Q1,I1,h1,h2,h3,h4⟩:=hI.out
    have HNx:=Lib.hid (bsNext_any h1 h2)
    have H1:=Lib.hid h1
    have H3:=Lib.hid h3
    have H4:=Lib.hid h4
    rw [HHe.out] at HNx
    clear h1 h2 h3 h4 hI
    go_wp2_with fail
    with_reducible refine HNx.out.mono ?_
    rintro e w2 ⟨v2,m2,Q2,I2,s2,o2,f2,(⟨d,rfl,i2⟩ | ⟨rfl,rfl,i2⟩)⟩
    · rw [←HHe.out] at s2 o2
      have hTp:=TpIn.next H1.out H3.out H4.out s2 o2 i2
      have HT0:=Lib.hid hTp
      have hfew:=hTp.few
      have hlenT:T.length≤4194303:=by
       have h1:=hfew.1
       rw [List.length_append] at h1
       omega
      have hsz:H'≤w2.heap.size:=s2.ord.2.2.2.2.2.2
      obtain ⟨x,y⟩:=d
      obtain ⟨v3,m3,Q3,I3,_,_,hrow3,_⟩:=hTp
      have HR3:=Lib.hid hrow3
      dsimp only
      clear HNx s2 o2 f2 i2 hfew hrow3
      go_wp2_with (at_builtin;refine wpList_append_lies _ rfl (.tmp 28) (.tmp 30) 42 rfl H' 60 i0 _ 2 16 Tryz.underlying42 hi0 hz0 hs0 hb0 rfl (by decide) (.slice A2 T.length c2) T.length (prcells T) rfl ((HR3.out.alloc _).alloc _) ⟨w2.heap.size+1,0,none⟩ 1 1 [.int .i64 x,.int .i64 (y:Int)] rfl rfl (World.news_of_block (cs:=#[.int .i64 x,.int .i64 (y:Int)]) (t:=60) (fr:=(0,0)) (by have h:=heap_alloc_new (w2.alloc (.cells #[.int .i64 x,.int .i64 (y:Int)] 60)) (.cells #[.int .i64 x,.int .i64 (y:Int)] 60);rw [size_alloc] at h;exact h)) (by simp [Value.oneCell']) (by decide) (by unfold maxLen;omega) (by omega) (by rw [size_alloc,size_alloc];omega) (w2.heap.size+1+1) (by rw [size_alloc,size_alloc]) ?_;intro gg cap w5 hown5 hgrow5 hat5 hlt5;have HG5:=Lib.hid hgrow5;have HO5:=Lib.hid hown5;clear hown5 hgrow5 hat5 hlt5)
      have hlT:(T++[(x,y)]).length=T.length+1:=by rw [List.length_append];rfl
      have hb2:Below w2.heap.size w2 ((w2.alloc (.cells #[.int .i64 x,.int .i64 (y:Int)] 60)).alloc (.cells #[.int .i64 x,.int .i64 (y:Int)] 60)):=((Below.refl _ _).alloc (Nat.le_refl _) _).alloc (by rw [size_alloc];omega) _
      have hfin:=(HT0.out.below hb2).app (lv':=.slice (some ⟨gg,0,none⟩) (T.length+1) cap) (D':=T++[(x,y)]) (by
       rw [hlT,prcells_append,prcells_one]
       exact HO5.out) HG5.out
      rw [←hlT] at hfin
      have HFin:=Lib.hid hfin
      clear hb2 hfin
      go_roundw
      case rel=>exact ⟨T++[(x,y)],some ⟨gg,0,none⟩,cap,by rw [hlT],Lib.hid (by rw [hlT];exact hlt2),HFin⟩
      case measure=>
       show k.toNat - (T.length+1) < k.toNat - T.length
       omega
    · rw [←HHe.out] at s2 o2
      have hTp:=TpIn.next H1.out H3.out H4.out s2 o2 (T':=T) (I':=I2) i2
      have HT0:=Lib.hid hTp
      have HI2:=Lib.hid i2
      clear HNx s2 o2 f2 i2 hTp
      unfold noneP
      go_wp2_with fail
      go_ret
      exact (HT0.out.below ((Below.refl _ _).alloc (Nat.le_refl _) _)).done hTk.out (.inr ⟨I2,HI2.out⟩)
  · have hTe:Hid (T.length=k.toNat):=Lib.hid (by have:=hTk.out;omega)
    go_wp2_with fail
    go_ret
    exact HI.out.done hTk.out (.inl hTe.out)
end
end Go.Proofs.YtcidobpbepeakaaGreat

namespace Go.Proofs.YtcidobpbepeakaaGreat
open Go.RowKit
def FitX (S:List Sec):Prop:=RightT S∧∀x∈S,∀k,k < x.n→x.V k < 256
theorem FitX.len {S:List Sec} (h:FitX S):S.length≤256∧lenT S≤65792:=by
 have h1:=h.1.1
 have h2:=h.1.2
 rw [lenT_is]
 omega
theorem FitX.sym {S:List Sec} (h:FitX S):∀i,i < lenT S→0≤symI S i∧symI S i < ((S.length+256:Nat):Int):=fun i hi=>by
 have:=sym_lt h.2 hi
 unfold symI
 omega
section
variable {w w':World} {B g gx cy cx y m N:Nat} {S:List Sec} {s:Nat→Nat} {X:Option Addr} {T:List Part} {V:Nat→Nat}
theorem owS_room (hs:IsSA (symI S) (lenT S) s):∀i,i < lenT S→0≤owS S s i∧owS S s i < (S.length:Int):=fun i hi=>by
 obtain ⟨d,h1,h2⟩:=docI_room (hs.1 i hi)
 unfold owS
 rw [h2]
 omega
theorem bdSymbols (h:Txt B w g X cx y cy T S) (hf:FitX S):Calls Tryz.prog 28 #[.pointer (some ⟨g,0,none⟩)] w fun e w'=>(∃A c,e=.returned (.slice A (lenT S) c)∧ItsR w' A (lenT S) c (symI S))∧Below w.heap.size w w':=
 (tsymbols_any h).mono fun e w' ⟨u,h1,h2,h3⟩=>by
   obtain ⟨A,c,rfl,h4⟩:=ItsR.of_own h2 fun i hi=>by have:=hf.sym i hi;have:=hf.len;omega
   exact ⟨⟨A,c,h1,h4⟩,h3⟩
theorem bdSuffix (hf:FitX S) (A:Option Addr) (c:Nat) (ho:ItsR w A (lenT S) c (symI S)):Calls Tryz.prog 29 #[.slice A (lenT S) c,.int .i64 ((S.length+256:Nat):Int)] w fun e w'=>(∃(A':Option Addr) (c':Nat) (s:Nat→Nat),e=.returned (.tuple #[.slice A' (lenT S) c',.int .i64 0])∧IsSA (symI S) (lenT S) s∧ItsR w' A' (lenT S) c' fun i=>((s i:Nat):Int))∧Below w.heap.size w w':=by
 have hl:=hf.len
 obtain ⟨o1,o2,o3,o4⟩:=ho
 refine (array_any A (lenT S) c (symI S) _ w (by omega) o1 o2 o3 o4).mono ?_
 rintro e w' ⟨h1,_,h3⟩
 obtain ⟨A',c',s,h4,h5,_,h6⟩:=h1 ⟨⟨by omega,by omega,by omega⟩,hf.sym⟩
 exact ⟨⟨A',c',s,h4,h5,h6⟩,h3⟩
theorem bdDocs (h:Txt B w g X cx y cy T S) (hf:FitX S) (hs:IsSA (symI S) (lenT S) s) (A:Option Addr) (c:Nat) (ho:ItsR w A (lenT S) c fun i=>((s i:Nat):Int)):Calls Tryz.prog 53 #[.pointer (some ⟨g,0,none⟩),.slice A (lenT S) c] w fun e w'=>(∃(A':Option Addr) (c':Nat),e=.returned (.tuple #[.slice A' (lenT S) c',.int .i64 0])∧ItsR w' A' (lenT S) c' (owS S s))∧Below w.heap.size w w':=by
 have hl:=hf.len
 refine (docArray_any h A (lenT S) c _ (by omega) ho).mono ?_
 rintro e w' ⟨h1,_,h3⟩
 obtain ⟨A2,c2,h4,h5⟩:=h1 ⟨rfl,hs.perm⟩
 exact ⟨⟨A2,c2,h4,h5⟩,h3⟩
def FndX (B:Nat) (w:World) (v:Value) (S:List Sec) (s:Nat→Nat):Prop:=(lenT S=0∧v=.pointer none)∨(0 < lenT S∧FndAt B w v (lenT S) (symI S) s (S.length+256) 8)
theorem bdFind (hf:FitX S) (hs:IsSA (symI S) (lenT S) s) (h0:0 < lenT S) (A:Option Addr) (c:Nat) (A':Option Addr) (c':Nat) (ho:ItsR w A (lenT S) c (symI S)) (ho':ItsR w A' (lenT S) c' fun i=>((s i:Nat):Int)):Calls Tryz.prog 52 #[.slice A (lenT S) c,.slice A' (lenT S) c',.int .i64 ((S.length+256:Nat):Int),.int .i64 8] w fun e w'=>(∃p,e=.returned (.tuple #[.pointer p,.int .i64 0])∧FndX w.heap.size w' (.pointer p) S s)∧Below w.heap.size w w':=by
 have hl:=hf.len
 refine (fdNew_any A (lenT S) c (symI S) A' (lenT S) c' _ ((S.length+256:Nat):Int) 8 w (by omega) (by omega) (by omega) ho ho').mono ?_
 rintro e w' ⟨h1,h2,h3⟩
 refine ⟨?_,h3⟩
 obtain ⟨g,a,h4,h5⟩:=h1 s ⟨⟨⟨by omega,by omega,by omega⟩,hf.sym⟩,by omega,sym_last h0,rfl,hs,fun _ _=>rfl,by decide,by decide⟩
 exact ⟨_,h4,.inr ⟨h0,g,a,rfl,by rw [Int.toNat_natCast] at h5;exact h5⟩⟩
theorem bdWave (hf:FitX S) (hs:IsSA (symI S) (lenT S) s) (A:Option Addr) (c:Nat) (ho:ItsR w A (lenT S) c (owS S s)):Calls Tryz.prog 54 #[.slice A (lenT S) c,.int .i64 255] w fun e w'=>(∃gm gl cl,e=.returned (.tuple #[.pointer (some ⟨gm,0,none⟩),.int .i64 0])∧Mx w' w.heap.size gm gl cl (lenT S) (owS S s) 255)∧Below w.heap.size w w':=by
 have hl:=hf.len
 refine (wvNew_yes A (lenT S) c (owS S s) 255 w (by omega) ho ⟨by decide,by decide,by omega,fun i hi=>by have:=owS_room hs i hi;omega⟩).mono ?_
 rintro e w' ⟨⟨g,gl,cl,h1,h2⟩,h3⟩
 exact ⟨⟨g,gl,cl,h1,h2⟩,h3⟩
theorem bdLcp (hf:FitX S) (hs:IsSA (symI S) (lenT S) s) (A:Option Addr) (c:Nat) (A':Option Addr) (c':Nat) (ho:ItsR w A (lenT S) c (symI S)) (ho':ItsR w A' (lenT S) c' fun i=>((s i:Nat):Int)):Calls Tryz.prog 56 #[.slice A (lenT S) c,.slice A' (lenT S) c'] w fun e w'=>(∃(A2:Option Addr) (c2:Nat),e=.returned (.tuple #[.slice A2 (lenT S) c2,.int .i64 0])∧ItsR w' A2 (lenT S) c2 (lcpI (symI S) (lenT S) fun i=>((s i:Nat):Int)))∧Below w.heap.size w w':=by
 have hl:=hf.len
 refine (larray_any A (lenT S) c (symI S) A' (lenT S) c' _ w (by omega) (by omega) ho ho').mono ?_
 rintro e w' ⟨h1,_,h3⟩
 obtain ⟨A2,c2,h4,h5⟩:=h1 ⟨rfl,hs.perm⟩
 exact ⟨⟨A2,c2,h4,h5⟩,h3⟩
theorem bdTally (hf:FitX S) (A:Option Addr) (c:Nat) (A':Option Addr) (c':Nat) {D L:Nat→Int} (ho:ItsR w A (lenT S) c D) (ho':ItsR w A' (lenT S) c' L):Calls Tryz.prog 57 #[.slice A (lenT S) c,.slice A' (lenT S) c'] w fun e w'=>(∃v,e=.returned (.tuple #[v,.int .i64 0])∧TalAt w.heap.size w' v (lenT S) D L)∧Below w.heap.size w w':=by
 have hl:=hf.len
 refine (tlNew_any A (lenT S) c D A' (lenT S) c' L w (by omega) (by omega) ho ho').mono ?_
 rintro e w' ⟨h1,_,h3⟩
 exact ⟨h1 rfl,h3⟩
theorem qPattern (h:Txt B w g X cx y cy T S) (hf:FitX S) (A:Option Addr) (n c:Nat) (hn:n≤256) (hA:A=none→n=0∧c=0) (ho:Bys w w.heap.size A n V) (hV:∀k,k < n→V k < 256):Calls Tryz.prog 39 #[.pointer (some ⟨g,0,none⟩),.slice A n c] w fun e w'=>(∃A' c',e=.returned (.slice A' n c')∧ItsR w' A' n c' (patI S.length V))∧Below w.heap.size w w':=by
 have hl:=hf.len
 refine (tpattern_any h A n c V (by omega) hA ho).mono ?_
 rintro e w' ⟨u,h1,h2,h3⟩
 obtain ⟨A2,c2,rfl,h4⟩:=ItsR.of_own h2 fun i hi=>by have:=hV i hi;omega
 exact ⟨⟨A2,c2,h1,h4⟩,h3⟩
theorem qRange {v:Value} (h:FndX B w v S s) (A:Option Addr) (n c:Nat) (ho:ItsR w A n c (patI S.length V)):Calls Tryz.prog 41 #[v,.slice A n c] w fun e w'=>e=.returned (.tuple #[.int .i64 (((rgS S n V s).1:Nat):Int),.int .i64 (((rgS S n V s).2:Nat):Int)])∧Below w.heap.size w w':=by
 rcases h with ⟨h0,rfl⟩ | ⟨_,gf,a,rfl,h⟩
 · have e:rgS S n V s=(0,0):=by
    have h1:=rgS_le S n V s
    exact Prod.ext (by show _=0;omega) (by show _=0;omega)
   rw [e]
   exact fdRange_nil A n c w
 · exact fdRange_any h A n c (patI S.length V) ho
theorem qPlaces {v:Value} (h:FndX B w v S s) (A:Option Addr) (n c:Nat) (ho:ItsR w A n c (patI S.length V)):Calls Tryz.prog 38 #[v,.slice A n c] w fun e w'=>(∃(A2:Option Addr) (c2:Nat),e=.returned (.slice A2 (plsF (symI S) (lenT S) (patI S.length V) n (lenT S)).length c2)∧ItsR w' A2 (plsF (symI S) (lenT S) (patI S.length V) n (lenT S)).length c2 (lstI (plsF (symI S) (lenT S) (patI S.length V) n (lenT S))))∧Below w.heap.size w w':=by
 rcases h with ⟨h0,rfl⟩ | ⟨_,gf,a,rfl,h⟩
 · have e:(plsF (symI S) (lenT S) (patI S.length V) n (lenT S)).length=0:=by
    have:=plsF_len (symI S) (lenT S) (patI S.length V) n (lenT S)
    omega
   refine (fdPlaces_nil A n c w (by have:=ho.2.1;have:=ho.2.2.1;unfold maxLen at this;omega)).mono ?_
   rintro e2 w' ⟨h1,h2⟩
   refine ⟨⟨none,0,by rw [h1,e],?_⟩,h2⟩
   rw [e]
   exact ⟨fun _=>⟨rfl,rfl⟩,Nat.le_refl _,Nat.zero_le _,fun j hj=>absurd hj (Nat.not_lt_zero j)⟩
 · exact fdPlaces_any h A n c (patI S.length V) ho
theorem qDocs {v:Value} (hf:FitX S) (hs:IsSA (symI S) (lenT S) s) (h:TalAt B w v (lenT S) (owS S s) (lcpI (symI S) (lenT S) fun i=>((s i:Nat):Int))) {n:Nat} (hn:0 < n) (hV:∀k,k < n→V k < 256):Calls Tryz.prog 34 #[v,.int .i64 (((rgS S n V s).1:Nat):Int),.int .i64 (((rgS S n V s).2:Nat):Int)] w fun e w'=>e=.returned (.int .i64 (((prW S n V S.length).length:Nat):Int))∧Below w.heap.size w w':=by
 have hd:=docs_rgS hs hf.2 hV hn
 have hle:=rgS_le S n V s
 obtain ⟨gt,gv,gw,av,ws,rfl,h⟩:=h
 rw [←hd]
 by_cases hab:(rgS S n V s).1 < (rgS S n V s).2
 · rw [docsI_in hab hle.2]
   exact tlDocs_in h _ _ hab hle.2
 · rw [docsI_out (by omega)]
   exact tlDocs_out (w:=w) _ _ _ (lenT S) (by omega) (tlPlaces_any h)
theorem qList {v:Value} (hf:FitX S) (hs:IsSA (symI S) (lenT S) s) (h:LisAt B w v (lenT S) (owS S s)) {n:Nat} (hV:∀k,k < n→V k < 256):Calls Tryz.prog 35 #[v,.int .i64 (((rgS S n V s).1:Nat):Int),.int .i64 (((rgS S n V s).2:Nat):Int)] w fun e w'=>(∃(A':Option Addr) (c':Nat),e=.returned (.slice A' (dcW S n V S.length).length c')∧ItsR w' A' (dcW S n V S.length).length c' (lstI (dcW S n V S.length)))∧Below w.heap.size w w':=by
 have hl:=hf.len
 have hle:=rgS_le S n V s
 obtain ⟨gl,A,c,gb,pr,rfl,h⟩:=h
 refine (lsDocs_any h _ _ (by omega) (by omega) (by omega) (by omega)).mono ?_
 rintro e w' ⟨⟨u,h1,A2,c2,m2,F,rfl,hE,hI⟩,h3⟩
 obtain ⟨e1,e2⟩:=hE.one (enum_rgS hs hf.2 hV)
 refine ⟨⟨A2,c2,?_,?_⟩,h3⟩
 · rw [h1,e1,dcW_len]
 · rw [dcW_len,←e1]
   exact ⟨hI.1,hI.2.1,hI.2.2.1,fun k hk=>by
    obtain ⟨ad,q1,q2,q3,q4⟩:=hI.2.2.2 k hk
    have e3:F k=lstI (dcW S n V S.length) k:=e2 k hk
    rw [e3] at q3 q4
    exact ⟨ad,q1,q2,q3,q4⟩⟩
theorem qTop {gm gl cl:Nat} (hf:FitX S) (hs:IsSA (symI S) (lenT S) s) (h:Mx w B gm gl cl (lenT S) (owS S s) 255) {n:Nat} (hV:∀k,k < n→V k < 256) (K:Int):Calls Tryz.prog 37 #[.pointer (some ⟨gm,0,none⟩),.int .i64 (((rgS S n V s).1:Nat):Int),.int .i64 (((rgS S n V s).2:Nat):Int),.int .i64 K] w fun e w'=>(∃(A':Option Addr) (c':Nat) (R T:List (Int×Nat)),e=.returned (.slice A' T.length c')∧(T.length≤c'∧c'≤maxLen)∧RkOf (prW S n V S.length) R∧T=R.take K.toNat∧PrsR w' A' T)∧Below w.heap.size w w':=by
 have hl:=hf.len
 have hle:=rgS_le S n V s
 refine (bsTop_any h (by omega) _ _ K (by omega) (by omega) (by omega) (by omega)).mono ?_
 rintro e w' ⟨⟨A,c,T,h1,h2,⟨R,h3,h4⟩,h5⟩,h6⟩
 exact ⟨⟨A,c,R,T,h1,h2,rank_rgS hs hf.2 hV h3,h4,h5⟩,h6⟩
end
end Go.Proofs.YtcidobpbepeakaaGreat
