/- Texts of ours, joined: WavNew. -/
import Derived.Test.YtcidobpbepeakaaGreatB30
import Derived.Test.YtcidobpbepeakaaGreatB27
import Derived.Test.YtcidobpbepeakaaGreatB19
import Derived.Test.YtcidobpbepeakaaGreatB12
import Derived.Test.YtcidobpbepeakaaGreatB06
import Derived.Deep.DeepAppendRoom
import Derived.Deep.AppendLies
import Derived.Deep.DrawnRows
set_option maxRecDepth 1000000
set_option maxHeartbeats 6400000
namespace Go.Proofs.YtcidobpbepeakaaGreat
open Go.RowKit
open Pl (cnt cnt_mono cnt_le cnt_congr)
theorem wdN_is (x:Nat) (hx:x < 2^64):wdN x=widthN x:=by
 obtain ⟨h1,h2,h3,h4⟩:=wdN_spec hx
 have h5:=widthN_pow (wdN x) x h3 h1
 have h6:=lt_widthN x
 have h7:=widthN_pos x
 by_cases e:wdN x=1
 · omega
 · have h8:=h4 e
   have h9:2^(wdN x - 1) < 2^widthN x:=Nat.lt_of_le_of_lt h8 h6
   have:=(Nat.pow_lt_pow_iff_right (by decide)).1 h9
   omega
theorem wvMayBe_is (A:Option Addr) (n c:Nat) (V:Nat→Int) (most:Int) (w:World) (hn:n≤4194303) (ho:ItsR w A n c V) (r:Bool) (hr:r=true↔RightW V n most):
    Calls Tryz.prog 85 #[.slice A n c,.int .i64 most] w fun e w'=>e=.returned (.bool r)∧w=w':=by
 have HO:=Lib.hid ho
 have hcm:c≤9223372036854775807:=by have:=ho.2.2.1;unfold maxLen at this;omega
 have hcl:=ho.2.1
 clear ho
 by_cases h0:most < 0
 · obtain rfl:r=false:=Bool.eq_false_iff.2 fun e=>by have:=(hr.1 e).1;omega
   have g1:decide (most < 0)=true:=decide_eq_true h0
   go_enter Tryz.func85,Tryz.ntmps85
   go_wp2_with fail
   go_ret
   exact ⟨rfl,rfl⟩
 · have g1:decide (most < 0)=false:=decide_eq_false h0
   by_cases h1:4194304≤most
   · obtain rfl:r=false:=Bool.eq_false_iff.2 fun e=>by have:=(hr.1 e).2.1;omega
     have g2:decide (4194304≤most)=true:=decide_eq_true h1
     go_enter Tryz.func85,Tryz.ntmps85
     go_wp2_with fail
     go_ret
     exact ⟨rfl,rfl⟩
   · have g2:decide (4194304≤most)=false:=decide_eq_false h1
     have g3:decide ((4194304:Int) < (n:Int))=false:=decide_eq_false (by omega)
     have g4:decide (4194304 < n)=false:=decide_eq_false (by omega)
     have HR:Hid (r=true↔∀i,i < n→0≤V i∧V i≤most):=Lib.hid (by
      rw [hr]
      exact ⟨fun h=>h.2.2.2,fun h=>⟨by omega,by omega,by omega,h⟩⟩)
     clear hr
     go_enter Tryz.func85,Tryz.ntmps85
     go_wp2_with fail
     go_loop [20] (fun v=>∃i:Nat,i≤n∧v=.int .i64 (i:Int)∧Hid (∀j,j < i→0≤V j∧V j≤most)) (fun v=>n - (intOf v).toNat)
     case atStart=>exact ⟨0,Nat.zero_le _,rfl,Lib.hid fun j h=>absurd h (Nat.not_lt_zero j)⟩
     case round=>
      obtain ⟨i,hi,rfl,hall⟩:=hrel
      by_cases hlt:i < n
      · have hlti:(i:Int) < (n:Int):=by omega
        obtain ⟨ad,rfl,_,hc,_⟩:=HO.out.2.2.2 i hlt
        obtain ⟨x,hx⟩:∃x,V i=x:=⟨_,rfl⟩
        rw [hx] at hc
        have HX:=Lib.hid hx
        clear hx
        by_cases hx0:x < 0
        · obtain rfl:r=false:=Bool.eq_false_iff.2 fun e=>by have:=HR.out.1 e i hlt;rw [HX.out] at this;omega
          have d1:decide (x < 0)=true:=decide_eq_true hx0
          go_wp2_with fail
          go_ret
          exact ⟨rfl,rfl⟩
        · have d1:decide (x < 0)=false:=decide_eq_false hx0
          by_cases hx1:most < x
          · obtain rfl:r=false:=Bool.eq_false_iff.2 fun e=>by have:=HR.out.1 e i hlt;rw [HX.out] at this;omega
            have d2:decide (most < x)=true:=decide_eq_true hx1
            go_wp2_with fail
            go_ret
            exact ⟨rfl,rfl⟩
          · have d2:decide (most < x)=false:=decide_eq_false hx1
            have HN:Hid (∀j,j < i+1→0≤V j∧V j≤most):=Lib.hid fun j hj=>by
             by_cases e:j=i
             · rw [e,HX.out];omega
             · exact hall.out j (by omega)
            go_wp2_with fail
            go_round
            case rel=>exact ⟨i+1,by omega,by go_num,HN⟩
            case measure=>simp [intOf];omega
      · obtain rfl:i=n:=by omega
        have hge:¬(i:Int) < (i:Int):=by omega
        obtain rfl:r=true:=HR.out.2 hall.out
        go_wp2_with fail
        go_ret
        exact ⟨rfl,rfl⟩
theorem Vc.alikeF {w:World} {B g gw n:Nat} {av:Value} {ws:List Nat} {f f':Nat→Bool} (h:Vc w B g gw av n ws f) (hf:∀i,i < n→f i=f' i):Vc w B g gw av n ws f':=by
 have hlen:=h.bits.len
 refine ⟨?_,h.body,fun k hk=>?_,⟨h.bits.few,h.bits.len,h.bits.small,fun i hi=>(h.bits.same i hi).trans (hf i hi),h.bits.behind⟩,h.lo⟩
 · rw [←cnt_congr hf]
   exact h.head
 · obtain ⟨ga,c,e,h1,h2,h3⟩:=h.row k hk
   refine ⟨ga,c,e,h1,h2,?_⟩
   rw [←cnt_congr (fun i hi=>hf i (by omega))]
   exact h3
theorem Vc.lowB {w:World} {B B' g gw n:Nat} {av:Value} {ws:List Nat} {f:Nat→Bool} (h:Vc w B g gw av n ws f) (hB:B'≤B):Vc w B' g gw av n ws f:=
 ⟨h.head,h.body,fun k hk=>by
   obtain ⟨ga,c,e,h1,h2,h3⟩:=h.row k hk
   exact ⟨ga,c,e,Nat.le_trans hB h1,h2,h3⟩,h.bits,⟨Nat.le_trans hB h.lo.1,Nat.le_trans hB h.lo.2⟩⟩
theorem wvLevel_any (A:Option Addr) (n c b:Nat) (R:Nat→Int) (w:World) (hn:n≤4194304) (hR:∀i,i < n→0≤R i∧R i≤4194304) (hb:b≤22) (ho:Its w w.heap.size A n R):
    Calls Tryz.prog 88 #[.slice A n c,.int .i64 (b:Int)] w (VecPostS w n (fun i=>decide (bitZ (R i) b=1))):=by
 have HO:=Lib.hid ho
 have HR:=Lib.hid hR
 have HN:=Lib.hid (new_full 1 n (by decide) (by decide) hn w)
 rw [show ((1:Nat):Int)=1 from rfl] at HN
 have h64:b≤64:=by omega
 have hblt:¬(b:Int) < 0:=by omega
 clear ho hR
 go_enter Tryz.func88,Tryz.ntmps88
 go_wp2_with (go_at_call 132;(with_reducible refine HN.out.mono ?_);rintro e w1 ⟨gp,gps,rfl,hg1,hg2,hb1,ws0,hF0⟩;have H0:=Lib.hid hF0;have HB1:=Lib.hid hb1;have HG:=Lib.hid (And.intro hg1 hg2);clear hF0 hb1 hg1 hg2)
 go_loopw [21] (fun v wr=>∃i:Nat,i≤n∧v=.int .i64 (i:Int)∧Hid (∃(ws:List Nat) (x:Nat→Nat),Full wr gp gps 1 n ws x∧∀j,j < i→x j=bitN (R j) b)∧Hid (Below w.heap.size w wr)) (fun v _=>n - (intOf v).toNat)
 case atStart=>exact ⟨0,Nat.zero_le _,rfl,Lib.hid ⟨ws0,_,H0.out,fun j h=>absurd h (Nat.not_lt_zero j)⟩,HB1⟩
 case round=>
  clear H0 HB1
  obtain ⟨i,hi,rfl,hF,hB⟩:=hrel
  by_cases hlt:i < n
  · have hlti:(i:Int) < (n:Int):=by omega
    obtain ⟨ad,rfl,_,hc,_⟩:=HO.out.below hB.out i hlt
    have hRi:=HR.out i hlt
    obtain ⟨ws,x,hFu,hx⟩:=hF.out
    have hset:=hFu.set_ i (bitN (R i) b) hlt (bitN_lt _ _)
    have hand:=and_bit (x:=R i) (b:=b) hRi.1 (by omega)
    rw [←bitN_int] at hand
    have hy:=bitN_lt (R i) b
    have hsz:=hB.out.size
    obtain ⟨y,hye⟩:∃y,bitN (R i) b=y:=⟨_,rfl⟩
    rw [hye] at hset hand hy
    have e1:IntKind.u64.wrap (y:Int)=(y:Int):=IntWalk.u64_in _ (by omega)
    have HS:=Lib.hid hset
    have HX:Hid (∀j,j < i+1→(fun k=>if k=i then y else x k) j=bitN (R j) b):=Lib.hid fun j hj=>by
     by_cases e:j=i
     · show (if j=i then y else x j)=_
       rw [if_pos e,e,hye]
     · show (if j=i then y else x j)=_
       rw [if_neg e]
       exact hx j (by omega)
    generalize R i=r at hc hand hRi
    clear hFu hx hF hset hye
    go_wp2_with (go_at_call 133;(with_reducible refine HS.out.mono ?_);rintro e w2 ⟨rfl,ws2,hF2,hg2⟩;have HF2:=Lib.hid hF2;have HG2:=Lib.hid hg2;clear hF2 hg2)
    go_roundw
    case rel=>exact ⟨i+1,by omega,by go_num,Lib.hid ⟨ws2,_,HF2.out,HX.out⟩,Lib.hid (hB.out.trans (below_of_grownBy HG2.out HG.out.2 hsz))⟩
    case measure=>simp [intOf];omega
  · obtain rfl:i=n:=by omega
    have hge:¬(i:Int) < (i:Int):=by omega
    obtain ⟨ws,x,hFu,hx⟩:=hF.out
    have HV:=Lib.hid (vnew_sl hFu)
    have HX:=Lib.hid hx
    clear hFu hx hF
    go_wp2_with (go_at_call 98;(with_reducible refine HV.out.mono ?_);rintro e w2 ⟨g,gw,av,ws2,rfl,hV2,hb2,hsl⟩;have HV2:=Lib.hid hV2;have HB2:=Lib.hid hb2;have HSl:=Lib.hid hsl;clear hV2 hb2 hsl)
    go_ret2
    exact ⟨g,gw,av,ws2,rfl,((HV2.out.alikeF fun j hj=>by
     rw [HX.out j hj]
     have h1:=bitN_int (R j) b
     have h2:=bitN_lt (R j) b
     rcases bitZ_or (R j) b with e | e
     · rw [e] at h1 ⊢
       rw [show bitN (R j) b=0 by omega]
       rfl
     · rw [e] at h1 ⊢
       rw [show bitN (R j) b=1 by omega]
       rfl).lowB hB.out.size),hB.out.trans (HB2.out.mono hB.out.size),HSl.out⟩
theorem owns_cut0 {w:World} {T gr o n:Nat} {cs:List Value} (h:w.ownsRow T 3 1 (.slice (some ⟨gr,0,none⟩) o n) o cs):w.ownsRow T 3 1 (.slice (some ⟨gr,0,none⟩) 0 n) 0 []:=by
 refine ⟨rfl,?_⟩
 rcases h.2 with ⟨e,_⟩ | ⟨g',cap,cur,e,h1,h2,h3,h4,h5,_⟩
 · cases e
 · cases e
   exact .inr ⟨gr,n,cur,rfl,h1,h2,Nat.zero_le _,h4,h5,by simp⟩
def PartPost (w:World) (T T' gr n b:Nat) (v:Value) (R:Nat→Int) (e:Ending) (w':World):Prop:=
 e=.returned (.tuple #[])∧w'.ownsRow T 3 1 v n (icells (rowNext R n b) n)∧w'.ownsRow T' 3 1 (.slice (some ⟨gr,0,none⟩) 0 n) 0 []∧Off (fun k=>k≠gr∧some k≠v.ownBlock) w w'
theorem wvPart_some {g c n b gr T T':Nat} {R:Nat→Int} {w:World} (hn:n≤4194304) (hR:∀i,i < n→0≤R i∧R i≤4194304) (hb:b≤22) (hv:w.ownsRow T 3 1 (.slice (some ⟨g,0,none⟩) n c) n (icells R n))
    (hr:w.ownsRow T' 3 1 (.slice (some ⟨gr,0,none⟩) 0 n) 0 []) (hne:g≠gr):
    Calls Tryz.prog 89 #[.slice (some ⟨g,0,none⟩) n c,.int .i64 (b:Int),.slice (some ⟨gr,0,none⟩) 0 n] w (PartPost w T T' gr n b (.slice (some ⟨g,0,none⟩) n c) R):=by
 obtain ⟨i0,hi0,hz0,hs0,hb0⟩:=info_parts info_i64
 have hcp:=owns_room hv
 have hcm:c≤9223372036854775807:=by have:=hcp.2;unfold maxLen at this;omega
 have hcl:=hcp.1
 have HV:=Lib.hid hv
 have HRm:=Lib.hid hr
 have HR:=Lib.hid hR
 have h64:b≤64:=by omega
 have hblt:¬(b:Int) < 0:=by omega
 clear hv hr hR hcp
 go_enter Tryz.func89,Tryz.ntmps89
 go_wp2_with fail
 go_loopw [2,6,11] (fun s t v wr=>∃(i z o:Nat) (U Y:Nat→Int),i≤n∧z+o=i∧v=.int .i64 (i:Int)∧t=.int .i64 (z:Int)∧s=.slice (some ⟨gr,0,none⟩) o n∧Hid (wr.ownsRow T 3 1 (.slice (some ⟨g,0,none⟩) n c) n (icells U n))∧Hid (wr.ownsRow T' 3 1 (.slice (some ⟨gr,0,none⟩) o n) o (icells Y o))∧Hid (PartIn R n b i z o U Y)∧Hid (Off (fun k=>k≠gr∧k≠g) w wr)) (fun _ _ v _=>n - (intOf v).toNat)
 case atStart=>exact ⟨0,0,0,R,fun _=>0,Nat.zero_le _,rfl,rfl,rfl,rfl,HV,HRm,Lib.hid (PartIn.start _ _ _ _),Lib.hid (Off.refl _ _)⟩
 case round=>
  clear HV HRm
  obtain ⟨i,z,o,U,Y,hi,hzo,rfl,rfl,rfl,hU,hY,hP,hO⟩:=hrel
  by_cases hlt:i < n
  · have hlti:(i:Int) < (n:Int):=by omega
    have hRi:=HR.out i hlt
    have hc0:wr.cell? ⟨g,i,none⟩=some (.int .i64 (R i)):=by
     rw [hU.out.cellAt i (by omega),←hP.out.rest i (Nat.le_refl _) hlt]
     exact icells_at _ _ _ hlt
    have hand:=and_bit (x:=R i) (b:=b) hRi.1 (by omega)
    rcases bitZ_or (R i) b with hz | hz
    · have HP2:=Lib.hid (hP.out.zero hz)
      have hcz:wr.cell? ⟨g,z,none⟩=some (.int .i64 (U z)):=by
       rw [hU.out.cellAt z (by omega)]
       exact icells_at _ _ _ (by omega)
      have hfz:=owns_free hU.out z
      have hzn:(z:Int) < (n:Int):=by omega
      have HU2:Hid ((wr.setCell ⟨g,z,none⟩ (.int .i64 (R i))).ownsRow T 3 1 (.slice (some ⟨g,0,none⟩) n c) n (icells (fun p=>if p=z then R i else U p) n)):=Lib.hid (by
       have:=owns_put hU.out z (.int .i64 (R i))
       rw [icells_put] at this
       exact this)
      have HY2:Hid ((wr.setCell ⟨g,z,none⟩ (.int .i64 (R i))).ownsRow T' 3 1 (.slice (some ⟨gr,0,none⟩) o n) o (icells Y o)):=Lib.hid (owns_far hY.out (a:=⟨g,z,none⟩) (fun e=>hne (by injection e with e;exact e.symm)) _)
      have HO2:Hid (Off (fun k=>k≠gr∧k≠g) w (wr.setCell ⟨g,z,none⟩ (.int .i64 (R i)))):=Lib.hid (hO.out.trans (Off.setCell (fun h=>h.2 rfl) _))
      rw [hz] at hand
      generalize R i=x at hc0 hand HP2 HU2 HY2 HO2 hRi
      generalize U z=uz at hcz
      clear hU hY hP hO hz
      go_wp2_with fail
      go_roundw
      case rel=>exact ⟨i+1,z+1,o,_,Y,by omega,by omega,by go_num,by go_num,rfl,HU2,HY2,HP2,HO2⟩
      case measure=>simp [intOf];omega
    · rw [hz] at hand
      have hYo:=hY
      have hon:o+1≤n:=by omega
      obtain ⟨x,hx⟩:∃x,R i=x:=⟨_,rfl⟩
      rw [hx] at hc0 hand
      have HP2:∀Y':Nat→Int,(∀p,p < o→Y' p=Y p)→Y' o=x→Hid (PartIn R n b (i+1) z (o+1) U Y'):=fun Y' h1 h2=>Lib.hid (hP.out.one hz h1 (by rw [h2,hx]))
      clear hP hx hz hRi
      go_wp2_with (at_builtin;refine wpList_append_own_spare _ rfl (.tmp 20) (.tmp 22) 34 rfl T' 3 i0 1 Tryz.underlying34 hi0 hs0 gr o n (icells Y o) rfl (hYo.out.alloc _) ⟨wr.heap.size,0,none⟩ 1 1 [.int .i64 x] rfl rfl (World.news_of_block (cs:=#[.int .i64 x]) (t:=3) (fr:=(0,0)) (heap_alloc_new wr _)) (by simp [Value.oneCell']) hon ?_;intro w5 hown5 hgrow5;have HOwn5:=Lib.hid hown5;have HGrow5:=Lib.hid hgrow5;clear hown5 hgrow5)
      have hga:wr.grownBy w5 (some gr):=grownBy_trans (World.grownBy_alloc wr _ _) HGrow5.out
      have HU5:Hid (w5.ownsRow T 3 1 (.slice (some ⟨g,0,none⟩) n c) n (icells U n)):=Lib.hid (hU.out.kept hga (.inr (fun e=>hne (by injection e))))
      have HO5:Hid (Off (fun k=>k≠gr∧k≠g) w w5):=Lib.hid (hO.out.trans (Off.grown hga (fun k e h=>by cases e;exact h.1 rfl)))
      have HY5:Hid (w5.ownsRow T' 3 1 (.slice (some ⟨gr,0,none⟩) (o+1) n) (o+1) (icells (fun p=>if p=o then x else Y p) (o+1))):=Lib.hid (by
       rw [icells_snoc,if_pos rfl,icells_congr (U:=fun p=>if p=o then x else Y p) (U':=Y) (fun j hj=>if_neg (by omega))]
       exact HOwn5.out)
      clear hU hO hY hYo hga HOwn5 HGrow5
      go_roundw
      case rel=>exact ⟨i+1,z,o+1,U,_,by omega,by omega,by go_num,rfl,rfl,HU5,HY5,HP2 _ (fun p hp=>if_neg (by omega)) (if_pos rfl),HO5⟩
      case measure=>simp [intOf];omega
  · obtain rfl:i=n:=by omega
    have hge:¬(i:Int) < (i:Int):=by omega
    have hlg:=(hU.out.lt g rfl).2
    obtain ⟨w2,hrun,hown2,hoff2⟩:=int_copy_own (o:=z) (dm:=i - z) (dc:=c - z) (m:=o) (c:=i) (k:=o) (V:=Y) (ad:=⟨gr,0,none⟩) hU.out (by rw [show i - z=o by omega];exact (Nat.min_self o).symm) (by omega) (fun j hj=>by
     rw [Addr.add_mid,Nat.zero_add,hY.out.cellAt j (by omega)]
     exact icells_at _ _ _ hj)
    rw [icells_congr (U:=overI U z o Y) (U':=rowNext R i b) (fun p hp=>hP.out.done p hp)] at hown2
    have HOwn2:=Lib.hid hown2
    have HY2:Hid (w2.ownsRow T' 3 1 (.slice (some ⟨gr,0,none⟩) 0 i) 0 []):=Lib.hid (owns_cut0 (hY.out.kept (row:=some g) ⟨hoff2.os,hoff2.tape,hoff2.output,hoff2.size,fun k hk h=>hoff2.block k hk (fun e=>h (by rw [e]))⟩ (.inr (fun e=>hne (by injection e with e;exact e.symm)))))
    have HO2:Hid (Off (fun k=>k≠gr∧some k≠some g) w w2):=Lib.hid ((hO.out.less (fun k hk=>⟨hk.1,fun e=>hk.2 (by rw [e])⟩)).trans (hoff2.less (fun k hk e=>hk.2 (by rw [e]))))
    by_cases hzc:z=c
    · have ho:o=0:=by omega
      have hic:i=c:=by omega
      subst ho
      subst hzc
      have hE:icells U i=icells (rowNext R i b) i:=icells_congr (fun p hp=>by
       have:=hP.out.done p hp
       rw [←this]
       show U p=if z≤p∧p < z+0 then _ else U p
       rw [if_neg (by omega)])
      have HU3:=hU
      rw [hE] at HU3
      have HY3:=Lib.hid (owns_cut0 hY.out)
      have HO3:Hid (Off (fun k=>k≠gr∧some k≠some g) w wr):=Lib.hid (hO.out.less (fun k hk=>⟨hk.1,fun e=>hk.2 (by rw [e])⟩))
      have hcopy:=fun (dp:Option Addr) (dc:Nat)=>run_copy_none (P:=Tryz.prog) wr 34 34 3 3 dp (some ⟨gr,0,none⟩) 0 dc 0 i Tryz.underlying34 size_i64b rfl
      clear hU hY hO hown2 hP hrun hoff2 HOwn2 HY2 HO2 hE hzo
      subst hic
      go_wp2_with fail
      go_end0
      exact ⟨rfl,HU3.out,HY3.out,HO3.out⟩
    · have hzcI:¬(z:Int)=(c:Int):=by omega
      clear hU hY hO hown2 hP hoff2
      go_wp2_with fail
      go_end0
      exact ⟨rfl,HOwn2.out,HY2.out,HO2.out⟩
theorem wvPart_none {b gr T T':Nat} {R:Nat→Int} {w:World} (hr:w.ownsRow T' 3 1 (.slice (some ⟨gr,0,none⟩) 0 0) 0 []):
    Calls Tryz.prog 89 #[.slice none 0 0,.int .i64 (b:Int),.slice (some ⟨gr,0,none⟩) 0 0] w (PartPost w T T' gr 0 b (.slice none 0 0) R):=by
 have HRm:=Lib.hid hr
 have hcopy:=fun (dp:Option Addr) (dc:Nat)=>run_copy_none (P:=Tryz.prog) w 34 34 3 3 dp (some ⟨gr,0,none⟩) 0 dc 0 0 Tryz.underlying34 size_i64b rfl
 clear hr
 go_enter Tryz.func89,Tryz.ntmps89
 go_wp2_with fail
 go_loop [2,6,11] (fun s t v=>s=.slice (some ⟨gr,0,none⟩) 0 0∧t=.int .i64 0∧v=.int .i64 0) (fun _ _ _=>0)
 case atStart=>exact ⟨rfl,rfl,rfl⟩
 case round=>
  obtain ⟨rfl,rfl,rfl⟩:=hrel
  go_wp2_with fail
  go_end0
  exact ⟨rfl,World.ownsRow_nil _ _ _ _,HRm.out,Off.refl _ _⟩
theorem wvPart_any {n b gr T T':Nat} {R:Nat→Int} {w:World} {v:Value} (hn:n≤4194304) (hR:∀i,i < n→0≤R i∧R i≤4194304) (hb:b≤22) (hv:w.ownsRow T 3 1 v n (icells R n))
    (hr:w.ownsRow T' 3 1 (.slice (some ⟨gr,0,none⟩) 0 n) 0 []) (hne:v.ownBlock≠some gr):
    Calls Tryz.prog 89 #[v,.int .i64 (b:Int),.slice (some ⟨gr,0,none⟩) 0 n] w (PartPost w T T' gr n b v R):=by
 have hv0:=hv
 rcases hv.2 with ⟨rfl,h0⟩ | ⟨g,c,cur,rfl,_⟩
 · have h1:=hv.1
   have hn0:n=0:=h0
   subst hn0
   exact wvPart_none hr
 · exact wvPart_some hn hR hb hv0 hr (fun e=>hne (by rw [e];rfl))
end Go.Proofs.YtcidobpbepeakaaGreat
namespace Go.Proofs.YtcidobpbepeakaaGreat
open Go.RowKit
open Pl (cnt cnt_mono cnt_le)
theorem info_vptr:(Tryz.prog.info? 116).map (fun i=>(i.zero,i.size,i.bytes))=some (some (.pointer none),1,8):=by kernel_rfl
def vpcells (P:List Nat):List Value:=P.map fun gv=>.pointer (some ⟨gv,0,none⟩)
theorem vpcells_length (P:List Nat):(vpcells P).length=P.length:=by unfold vpcells;rw [List.length_map]
theorem vpcells_at {P:List Nat} {k gv:Nat} (h:P[k]?=some gv):(vpcells P)[k]?=some (.pointer (some ⟨gv,0,none⟩)):=by
 unfold vpcells
 rw [List.getElem?_map,h]
 rfl
theorem vpcells_snoc (P:List Nat) (gv:Nat):vpcells (P++[gv])=vpcells P++[.pointer (some ⟨gv,0,none⟩)]:=by
 unfold vpcells
 rw [List.map_append]
 rfl
theorem owns_offL {w:World} {B n g:Nat} {t t':TypeId} {v:Value} {cs cs':List Value} (h:w.ownsRow B t 1 v n cs) (hl:Lies w g t' cs') (ht:t≠t'):v.ownBlock≠some g:=by
 intro e
 rcases h.2 with ⟨rfl,_⟩ | ⟨g',cap,cur,rfl,_,hg,_⟩
 · cases e
 · have e:some g'=some g:=e
   cases e
   unfold Lies at hl
   rw [hl] at hg
   simp at hg
   exact ht hg.2.symm
theorem Vc.grownP {w w':World} {B T gv gw n k:Nat} {av lv:Value} {ws:List Nat} {f:Nat→Bool} {P:List Nat} (h:Vc w B gv gw av n ws f) (hl:w.ownsRow T 116 1 lv k (vpcells P)) (hk:0 < P.length) (hg:w.grownBy w' lv.ownBlock):Vc w' B gv gw av n ws f:=by
 refine ⟨h.head.grown hg (fun e=>owns_offL hl h.head (by decide) e.symm),h.body.grown hg (fun e=>owns_offL hl h.body (by decide) e.symm),fun q hq=>?_,h.bits,h.lo⟩
 obtain ⟨ga,c,e,h1,h2,h3⟩:=h.row q hq
 refine ⟨ga,c,e,h1,Nat.lt_of_lt_of_le h2 hg.size,(World.cell?_of_block (a:=⟨ga,q,none⟩) (hg.block ga h2 (fun e'=>?_))).trans h3⟩
 obtain ⟨ga',c',e2,_,_,h3'⟩:=h.row 0 (by omega)
 rw [e] at e2
 injection e2 with e2
 injection e2 with e2
 injection e2 with e2
 subst e2
 obtain ⟨gl,cl,rfl,_,_⟩:=hl.form (by have:=hl.1;rw [vpcells_length] at this;omega)
 have e':some ga=some gl:=e'
 injection e' with e'
 subst e'
 obtain ⟨x,hx⟩:∃x,P[0]?=some x:=⟨_,List.getElem?_eq_getElem hk⟩
 have h4:=hl.cellAt 0 (by have:=hl.1;rw [vpcells_length] at this;omega)
 rw [vpcells_at hx] at h4
 rw [h4] at h3'
 cases h3'
structure NwIn (w wr:World) (T g gr:Nat) (rv lv:Value) (P:List Nat) (V:Nat→Int) (n W k:Nat):Prop where
 head:Lies wr g 134 [.int .i64 (n:Int),lv]
 lev:wr.ownsRow T 116 1 lv k (vpcells P)
 len:P.length=k
 vecs:∀q gv,P[q]?=some gv→∃(gw:Nat) (av:Value) (ws:List Nat),Vc wr T gv gw av n ws (levBit V n W q)∧∃(A:Option Addr) (z c:Nat),av=.slice A z c
 row:wr.ownsRow w.heap.size 3 1 rv n (icells (levRow V n W k) n)
 room:wr.ownsRow w.heap.size 3 1 (.slice (some ⟨gr,0,none⟩) 0 n) 0 []
 apart:rv.ownBlock≠some gr
 rlo:∀x,rv.ownBlock=some x→x < T
 glo:w.heap.size≤g∧g < T∧gr < T
 below:Below w.heap.size w wr
 size:T≤wr.heap.size
section
variable {w wr w1 w2:World} {T g gr n W k:Nat} {rv lv:Value} {P:List Nat} {V:Nat→Int}
theorem NwIn.keep (h:NwIn w wr T g gr rv lv P V n W k) (hb:Below wr.heap.size wr w1):NwIn w w1 T g gr rv lv P V n W k:=
 ⟨h.head.below hb h.head.lt,ownsRow_keep h.lev hb,h.len,fun q gv hq=>by
   obtain ⟨gw,av,ws,hv⟩:=h.vecs q gv hq
   exact ⟨gw,av,ws,hv.1.keep hb,hv.2⟩,ownsRow_keep h.row hb,ownsRow_keep h.room hb,h.apart,h.rlo,h.glo,h.below.trans (hb.mono h.below.size),Nat.le_trans h.size hb.size⟩
theorem NwIn.snoc {gv gw gg cap:Nat} {av:Value} {ws:List Nat} (h:NwIn w w1 T g gr rv lv P V n W k)
    (hown:w2.ownsRow T 116 1 (.slice (some ⟨gg,0,none⟩) (k+1) cap) (k+1) (vpcells P++[.pointer (some ⟨gv,0,none⟩)])) (hgrow:(w1.alloc (.cells #[.pointer (some ⟨gv,0,none⟩)] 116)).grownBy w2 lv.ownBlock) (hvl:Vc w2 T gv gw av n ws (levBit V n W k)) (hsl:∃(A:Option Addr) (z c:Nat),av=.slice A z c) (R:Nat→Int) (hR:levRow V n W k=R):
    ∀w3,w3=w2.setCell ⟨g,1,none⟩ (.slice (some ⟨gg,0,none⟩) (k+1) cap)→Lies w3 g 134 [.int .i64 (n:Int),.slice (some ⟨gg,0,none⟩) (k+1) cap]∧w3.ownsRow T 116 1 (.slice (some ⟨gg,0,none⟩) (k+1) cap) (k+1) (vpcells (P++[gv]))∧
      (∀q x,(P++[gv])[q]?=some x→∃(gw:Nat) (av:Value) (ws:List Nat),Vc w3 T x gw av n ws (levBit V n W q)∧∃(A:Option Addr) (z c:Nat),av=.slice A z c)∧w3.ownsRow w.heap.size 3 1 rv n (icells R n)∧w3.ownsRow w.heap.size 3 1 (.slice (some ⟨gr,0,none⟩) 0 n) 0 []∧Below w.heap.size w w3∧T≤w3.heap.size:=by
 rintro w3 rfl
 have ha:w1.grownBy w2 lv.ownBlock:=grownBy_trans (World.grownBy_alloc w1 _ _) hgrow
 have hlvT:∀x,lv.ownBlock=some x→T≤x:=fun x hx=>(h.lev.lt x hx).1
 have h1:=h.head.grown ha (fun e=>by have:=hlvT g e.symm;have:=h.glo.2.1;omega)
 have hgg:T≤gg:=(hown.lt gg rfl).1
 have hset:∀(x gw:Nat) (av:Value) (ws:List Nat) (f:Nat→Bool),Vc w2 T x gw av n ws f→Vc (w2.setCell ⟨g,1,none⟩ (.slice (some ⟨gg,0,none⟩) (k+1) cap)) T x gw av n ws f:=fun x gw av ws f hx=>
  hx.keepB (by simp [World.setCell]) (fun j hj _=>Below.heap_setCell w2 ⟨g,1,none⟩ _ j (by show j≠g;have:=h.glo.2.1;omega))
 have hrow:=h.row.kept ha (by
  rcases e:rv.ownBlock with _ | x
  · exact .inl rfl
  · exact .inr (fun e'=>by have:=hlvT x e'.symm;have:=h.rlo x e;omega))
 have hroom:=h.room.kept ha (.inr (fun e'=>by have:=hlvT gr e'.symm;have:=h.glo.2.2;omega))
 have hput:=grownBy_put (g:=g) (grownBy_of_below (Below.refl w2.heap.size w2) (some g)) 1 (.slice (some ⟨gg,0,none⟩) (k+1) cap)
 refine ⟨h1.put 1 _,?_,fun q x hq=>?_,?_,?_,?_,?_⟩
 · rw [vpcells_snoc]
   exact hown.kept hput (.inr (fun e=>by have e:some gg=some g:=e;injection e with e;have:=h.glo.2.1;omega))
 · by_cases hqk:q < k
   · rw [List.getElem?_append_left (by rw [h.len];exact hqk)] at hq
     obtain ⟨gw',av',ws',hx⟩:=h.vecs q x hq
     exact ⟨gw',av',ws',hset _ _ _ _ _ (hx.1.grownP h.lev (by rw [h.len];omega) ha),hx.2⟩
   · have hl:=(List.getElem?_eq_some_iff.1 hq).1
     rw [List.length_append,h.len] at hl
     have hqe:q=k:=by
      have:([gv]:List Nat).length=1:=rfl
      omega
     subst hqe
     rw [List.getElem?_append_right (by rw [h.len];omega),h.len,Nat.sub_self] at hq
     cases hq
     exact ⟨gw,av,ws,hset _ _ _ _ _ hvl,hsl⟩
 · rw [←hR]
   exact hrow.kept hput (by
    by_cases hn:rv.ownBlock=some g
    · exact absurd hn (owns_offL hrow h1 (by decide))
    · exact .inr hn)
 · exact hroom.kept hput (.inr (owns_offL hroom h1 (by decide)))
 · exact (h.below.grown ha h.below.size (fun x hx=>by have:=hlvT x hx;have:=h.glo;omega)).setCell (p:=⟨g,1,none⟩) h.glo.1 _
 · have:=ha.size
   have:=h.size
   simp [World.setCell]
   omega
end
theorem owns_off {w w':World} {T n:Nat} {t:TypeId} {v:Value} {cs:List Value} {p:Nat→Prop} (h:w.ownsRow T t 1 v n cs) (ho:Off p w w') (hp:∀x,v.ownBlock=some x→p x):w'.ownsRow T t 1 v n cs:=by
 refine ⟨h.1,?_⟩
 rcases h.2 with h0 | ⟨g,cap,cur,e,h1,h2,h3⟩
 · exact .inl h0
 · subst e
   exact .inr ⟨g,cap,cur,rfl,h1,(ho.block g (Array.getElem?_eq_some_iff.1 h2).1 (hp g rfl)).trans h2,h3⟩
theorem NwIn.next {w w3 w':World} {T g gr n W k b:Nat} {rv lv:Value} {P:List Nat} {V:Nat→Int} (hb:b=W - 1 - k) (hlen:P.length=k+1) (hap:rv.ownBlock≠some gr) (hrl:∀x,rv.ownBlock=some x→x < T) (hgl:w.heap.size≤g∧g < T∧gr < T)
    (h:Lies w3 g 134 [.int .i64 (n:Int),lv]∧w3.ownsRow T 116 1 lv (k+1) (vpcells P)∧
      (∀q x,P[q]?=some x→∃(gw:Nat) (av:Value) (ws:List Nat),Vc w3 T x gw av n ws (levBit V n W q)∧∃(A:Option Addr) (z c:Nat),av=.slice A z c)∧w3.ownsRow w.heap.size 3 1 rv n (icells (levRow V n W k) n)∧w3.ownsRow w.heap.size 3 1 (.slice (some ⟨gr,0,none⟩) 0 n) 0 []∧Below w.heap.size w w3∧T≤w3.heap.size)
    (h1:w'.ownsRow w.heap.size 3 1 rv n (icells (rowNext (levRow V n W k) n b) n)) (h2:w'.ownsRow w.heap.size 3 1 (.slice (some ⟨gr,0,none⟩) 0 n) 0 []) (ho:Off (fun x=>x≠gr∧some x≠rv.ownBlock) w3 w'):NwIn w w' T g gr rv lv P V n W (k+1):=by
 obtain ⟨q1,q2,q3,q4,q5,q6,q7⟩:=h
 have hT:∀x,T≤x→x≠gr∧some x≠rv.ownBlock:=fun x hx=>⟨by omega,fun e=>by have:=hrl x e.symm;omega⟩
 refine ⟨q1.same (ho.block g q1.lt ⟨fun e=>owns_offL q5 q1 (by decide) (by rw [e];rfl),fun e=>owns_offL q4 q1 (by decide) e.symm⟩),owns_off q2 ho (fun x hx=>hT x (q2.lt x hx).1),hlen,fun q x hq=>?_,?_,h2,hap,hrl,hgl,q6.trans (ho.below q6.size fun x hx=>⟨fun e=>?_,fun e=>?_⟩),Nat.le_trans q7 ho.size⟩
 · obtain ⟨gw,av,ws,hv⟩:=q3 q x hq
   exact ⟨gw,av,ws,hv.1.keepB ho.size fun j hj hl=>ho.block j hl (hT j hj),hv.2⟩
 · subst hb
   exact h1
 · have:=(q5.lt gr rfl).1
   omega
 · have:=(q4.lt x e.symm).1
   omega
theorem wvMake_room (w:World) (n:Nat) (hn:n≤4194304):(Instr.makeSlice 34 (.int .i64 0) (.int .i64 (n:Int))).run Tryz.prog w=.ok (.slice (some ⟨w.heap.size,0,none⟩) 0 n) (w.alloc (.cells (icells (fun _=>0) n).toArray 3)):=by
 obtain ⟨i0,hi0,hz0,hs0,hb0⟩:=info_parts info_i64
 have h:=run_make (P:=Tryz.prog) w 34 3 i0 _ Tryz.underlying34 hi0 hz0 .i64 .i64 0 (n:Int) (by omega) (by omega) (by rw [hb0];omega) (by omega)
 rw [hs0,Int.toNat_natCast,zero_ints] at h
 exact h
theorem wvNew_yes (A:Option Addr) (n c:Nat) (V:Nat→Int) (m:Nat) (w:World) (hn:n≤4194303) (ho:ItsR w A n c V) (hR:RightW V n (m:Int)):
    Calls Tryz.prog 54 #[.slice A n c,.int .i64 (m:Int)] w fun e w'=>(∃g gl cl,e=.returned (.tuple #[.pointer (some ⟨g,0,none⟩),.int .i64 0])∧Mx w' w.heap.size g gl cl n V m)∧Below w.heap.size w w':=by
 obtain ⟨lo,hlo⟩:∃lo,w.heap.size=lo:=⟨_,rfl⟩
 have hm4:m < 4194304:=by have:=hR.2.1;omega
 obtain ⟨hw1,hw2⟩:=widthN_22 hm4
 have HMb:=Lib.hid (wvMayBe_is A n c V (m:Int) w hn ho true ⟨fun _=>hR,fun _=>rfl⟩)
 have HVr:=Lib.hid (levRow_room (V:=V) (n:=n) (W:=widthN m) (lo:=0) (hi:=4194304) (fun i hi=>by have:=hR.2.2.2 i hi;omega))
 have HRt:=Lib.hid hR
 obtain ⟨wa,hwa⟩:∃wa,w.alloc (.cells #[.int .i64 (n:Int),.slice none 0 0] 134)=wa:=⟨_,rfl⟩
 have za:wa.heap.size=lo+1:=by rw [←hwa,size_alloc,hlo]
 have la:Lies wa lo 134 [.int .i64 (n:Int),.slice none 0 0]:=by rw [←hwa,←hlo];exact lies_new w _ _
 have ka:Below lo w wa:=by rw [←hwa,←hlo];exact (Below.refl _ _).alloc (Nat.le_refl _) _
 have HCl:=Lib.hid (wvClone_any A n c V wa (by omega) (ho.below (by rw [hlo];exact ka)))
 have HWi:∀W,Hid (Calls Tryz.prog 87 #[.int .u64 (m:Int)] W fun e w'=>e=.returned (.int .i64 (widthN m:Nat))∧W=w'):=fun W=>Lib.hid (by
  have:=widthOf_any m (by omega) W
  rwa [wdN_is m (by omega)] at this)
 obtain ⟨Wd,hWd⟩:∃Wd,widthN m=Wd:=⟨_,rfl⟩
 have HWe:=Lib.hid hWd
 rw [hWd] at hw1 hw2 HVr HWi
 have hmu:IntKind.u64.wrap (m:Int)=(m:Int):=IntWalk.u64_in _ (by omega)
 have hwd1:IntKind.i64.wrap ((Wd:Int) - 1)=(Wd:Int) - 1:=IntWalk.i64_in _ (by omega)
 obtain ⟨i0,hi0,hz0,hs0,hb0⟩:=info_parts info_vptr
 rw [hlo]
 clear ho hR hWd
 go_enter Tryz.func54,Tryz.ntmps54
 go_wp2_with (first
  | (go_at_call 85;(with_reducible refine HMb.out.mono ?_);rintro e w' ⟨rfl,rfl⟩)
  | (go_at_call 86;(with_reducible refine HCl.out.mono ?_);rintro e w1 ⟨rv,rfl,hrow,hb1⟩;have hMk:=wvMake_room w1 n (by omega);have HRow:=Lib.hid hrow;have HB1:=Lib.hid hb1;clear hrow hb1)
  | (go_at_call 87;(with_reducible refine (HWi _).out.mono ?_);rintro e w' ⟨rfl,rfl⟩))
 have z1:lo+1≤w1.heap.size:=by rw [←za];exact HB1.out.size
 obtain ⟨gr,hgr⟩:∃gr,w1.heap.size=gr:=⟨_,rfl⟩
 rw [hgr]
 obtain ⟨wb,hwb⟩:∃wb,w1.alloc (.cells (icells (fun _=>0) n).toArray 3)=wb:=⟨_,rfl⟩
 rw [hwb]
 have zb:wb.heap.size=gr+1:=by rw [←hwb,size_alloc,hgr]
 have kb:Below w1.heap.size w1 wb:=by rw [←hwb];exact (Below.refl _ _).alloc (Nat.le_refl _) _
 have lr:Lies wb gr 3 (icells (fun _=>0) n):=by rw [←hwb,←hgr];exact lies_new w1 _ _
 have hrlt:=HRow.out.lt
 have H0:Hid (NwIn w wb (gr+1) lo gr rv (.slice none 0 0) [] V n Wd 0):=Lib.hid ⟨(la.below HB1.out (by omega)).below kb (by omega),World.ownsRow_nil _ _ _ _,rfl,fun q gv hq=>by simp at hq,ownsRow_keep (ownsRow_lower HRow.out (by omega)) kb,owns_cut0 (owns_lies lr (by omega) (by rw [icells_length]) (by unfold maxLen;omega)),fun e=>by have:=(hrlt gr e).2;omega,fun x e=>by have:=(hrlt x e).2;omega,⟨by omega,by omega,by omega⟩,by rw [hlo];exact (ka.trans (HB1.out.mono (by omega))).trans (kb.mono (by omega)),by omega⟩
 clear lr kb hrlt HRow HB1 hMk hwb ka la za hwa HCl HMb HWi
 go_loopw [9] (fun v wr=>∃(k:Nat) (z:Int) (lv:Value) (P:List Nat),k≤Wd∧z+(k:Int)+1=(Wd:Int)∧v=.int .i64 z∧Hid (NwIn w wr (gr+1) lo gr rv lv P V n Wd k)) (fun v _=>(intOf v+1).toNat)
 case atStart=>exact ⟨0,(Wd:Int) - 1,_,[],Nat.zero_le _,by omega,rfl,H0⟩
 case round=>
  clear H0
  obtain ⟨k,z,lv,P,hk,hz,rfl,H⟩:=hrel
  by_cases hlt:k < Wd
  · obtain ⟨b,rfl⟩:∃b:Nat,z=(b:Int):=⟨z.toNat,by omega⟩
    have hb:b=Wd - 1 - k:=by omega
    have g0:decide ((0:Int)≤(b:Int))=true:=decide_eq_true (by omega)
    have hVk:=HVr.out k
    have hIts:Hid (∃(A2:Option Addr) (c2:Nat),rv=.slice A2 n c2∧ItsR wr A2 n c2 (levRow V n Wd k)):=Lib.hid (ItsR.of_own H.out.row (fun i hi=>by have:=hVk i hi;omega))
    obtain ⟨A2,c2,hrv,hI2⟩:=hIts.out
    have HLv:=Lib.hid (wvLevel_any A2 n c2 b (levRow V n Wd k) wr (by omega) hVk (by omega) hI2.2.2.2)
    have hcm2:c2≤9223372036854775807:=by have:=hI2.2.2.1;unfold maxLen at this;omega
    have hf:(fun i=>decide (bitZ (levRow V n Wd k i) b=1))=levBit V n Wd k:=by rw [hb];rfl
    rw [←hrv,hf] at HLv
    have Hb:=Lib.hid hb
    have hne:=H.out.apart
    have hrl:=H.out.rlo
    have HG:=Lib.hid H.out.glo
    have hTs:=H.out.size
    have hPl:=H.out.len
    have hk4:k≤22:=by omega
    have HVk:=Lib.hid hVk
    have hb22:b≤22:=by omega
    have hn4:n≤4194304:=by omega
    clear hIts hI2 hf hb hVk hrv hcm2
    go_wp2_with (first
     | (go_at_call 88;(with_reducible refine HLv.out.mono ?_);rintro e w2 ⟨gv,gw,av,ws,rfl,hV2,hb2,hsl⟩;have HSl:=Lib.hid hsl;have H1:=Lib.hid (H.out.keep hb2);have HV2:=Lib.hid hV2;have hc1:w2.cell? ⟨lo,1,none⟩=some lv:=H1.out.head.cell 1;have hT2:=H1.out.size;clear hV2 hb2 hsl)
     | (at_builtin;refine wpList_append_lies _ rfl (.tmp 46) (.tmp 48) 132 rfl (gr+1) 116 i0 _ 1 8 Tryz.underlying132 hi0 hz0 hs0 hb0 rfl (by decide) lv k (vpcells P) rfl (H1.out.lev.alloc _) ⟨w2.heap.size,0,none⟩ 1 1 [.pointer (some ⟨gv,0,none⟩)] rfl rfl (World.news_of_block (cs:=#[.pointer (some ⟨gv,0,none⟩)]) (t:=116) (fr:=(0,0)) (heap_alloc_new w2 _)) (by simp [Value.oneCell']) (by decide) (by unfold maxLen;omega) (by omega) (by rw [size_alloc];omega) (w2.heap.size+1) (by rw [size_alloc]) ?_;intro gg cap w5 hown5 hgrow5 hat5 hlt5;have hga:=grownBy_trans (World.grownBy_alloc w2 _ _) hgrow5;have hd5:=H1.out.head.grown hga (fun e=>by have:=(H1.out.lev.lt lo e.symm).1;have:=HG.out;omega);have hcx:w5.cell? ⟨lo,1,none⟩=some lv:=hd5.cell 1;have hfz:=hd5.free 1;have HV5:=(HV2.out.keepB hga.size (fun j hj hl=>hga.block j hl (fun e=>by have:=(H.out.lev.lt j e.symm).2;omega))).lowB hTs;have HBk:=Lib.hid (H1.out.snoc hown5 hgrow5 HV5 HSl.out (levRow V n Wd k) rfl _ rfl);have HPt:=Lib.hid (wvPart_any hn4 HVk.out hb22 HBk.out.2.2.2.1 HBk.out.2.2.2.2.1 hne);clear hown5 hgrow5 hat5 hlt5 hga HV5)
     | (go_at_call 89;(with_reducible refine HPt.out.mono ?_);rintro e w7 ⟨rfl,hrow7,hroom7,hoff7⟩;have HN7:=Lib.hid (NwIn.next Hb.out (by rw [List.length_append,hPl];rfl) hne hrl HG.out HBk.out hrow7 hroom7 hoff7);clear hrow7 hroom7 hoff7))
    have eb:IntKind.i64.wrap ((b:Int) - 1)=(b:Int) - 1:=IntWalk.i64_in _ (by omega)
    go_wp2_with fail
    go_roundw
    case rel=>exact ⟨k+1,(b:Int) - 1,_,_,by omega,by omega,rfl,HN7⟩
    case measure=>simp [intOf]
  · obtain rfl:k=Wd:=by omega
    obtain rfl:z= -1:=by omega
    obtain ⟨gl,cl,rfl,hgl1,hgl2⟩:=H.out.lev.form (by omega)
    have hrm:=owns_room H.out.lev
    have HMx:Hid (Mx wr lo lo gl cl n V m):=Lib.hid (by
     refine ⟨by rw [HWe.out];exact H.out.head,by rw [HWe.out];exact hrm,fun q hq=>?_,⟨Nat.le_refl _,by omega,hgl2⟩,HRt.out,fun q x hq hc=>?_⟩
     rotate_left
     · rw [HWe.out] at hq
       obtain ⟨gv,hgv⟩:∃gv,P[q]?=some gv:=⟨_,List.getElem?_eq_getElem (by rw [H.out.len];exact hq)⟩
       obtain ⟨gw,av,ws,hv,A2,z2,c2,hav⟩:=H.out.vecs q gv hgv
       rw [H.out.lev.cellAt q (by omega),vpcells_at hgv] at hc
       injection hc with hc
       injection hc with hc
       injection hc with hc
       injection hc with hc
       subst hc
       exact ⟨A2,z2,c2,by rw [←hav];exact hv.c3⟩
     rw [HWe.out] at hq ⊢
     obtain ⟨gv,hgv⟩:∃gv,P[q]?=some gv:=⟨_,List.getElem?_eq_getElem (by rw [H.out.len];exact hq)⟩
     obtain ⟨gw,av,ws,hv⟩:=H.out.vecs q gv hgv
     exact ⟨gv,gw,av,ws,by rw [H.out.lev.cellAt q (by omega)];exact vpcells_at hgv,hv.1.lowB (by omega)⟩)
    have HB:Hid (Below lo w wr):=Lib.hid (by have:=H.out.below;rwa [hlo] at this)
    clear H hrm
    go_wp2_with fail
    go_ret2
    exact ⟨⟨lo,gl,cl,rfl,HMx.out⟩,HB.out⟩
theorem made_vptr (k:Nat):madeCells (Value.pointer none).cells (k*1)=(List.replicate k (Value.pointer none)).toArray:=by
 apply Array.ext'
 simp [madeCells,Value.cells,Array.toList_range]
 apply List.ext_getElem
 · simp
 · intro i h1 h2
   simp [Nat.mod_one]
theorem wvMake_ptrs (w:World) (k:Nat) (hk:k≤4194304):(Instr.makeSlice 132 (.int .i64 (k:Int)) (.int .i64 (k:Int))).run Tryz.prog w=.ok (.slice (some ⟨w.heap.size,0,none⟩) k k) (w.alloc (.cells (List.replicate k (Value.pointer none)).toArray 116)):=by
 obtain ⟨i0,hi0,hz0,hs0,hb0⟩:=info_parts info_vptr
 have h:=run_make (P:=Tryz.prog) w 132 116 i0 _ Tryz.underlying132 hi0 hz0 .i64 .i64 (k:Int) (k:Int) (by omega) (Int.le_refl _) (by rw [hb0];omega) (by omega)
 rw [hs0,Int.toNat_natCast,made_vptr] at h
 exact h
def LvIn (w wr:World) (B s n W k:Nat) (V:Nat→Int):Prop:=∃cs:List Value,cs.length=W∧Lies wr s 116 cs∧∀j,j < k→∃(gc gv gw:Nat) (av:Value) (ws:List Nat),cs[j]?=some (.pointer (some ⟨gc,0,none⟩))∧s < gc∧Lies wr gc 191 [.int .i64 (n:Int),.int .i64 ((cnt (levBit V n W j) n:Nat):Int),.slice (some ⟨gw,0,none⟩) ws.length ws.length,av]∧Vc w B gv gw av n ws (levBit V n W j)
def LevPost (w:World) (B n W:Nat) (V:Nat→Int) (e:Ending) (w':World):Prop:=
 (∃(A:Option Addr) (c:Nat),e=.returned (.slice A W c)∧∀k,k < W→∃(ad:Addr) (x:Value),A=some ad∧ad.block < w'.heap.size∧w'.cell? (ad.add k)=some x∧VcAt B w' x n (levBit V n W k))∧Below w.heap.size w w'
theorem wvLevels_any {w:World} {B g gl cl n m:Nat} {V:Nat→Int} (h:Mx w B g gl cl n V m):
    Calls Tryz.prog 103 #[.pointer (some ⟨g,0,none⟩)] w (LevPost w B n (widthN m) V):=by
 have HH:=Lib.hid h
 obtain ⟨s,hs⟩:∃s,w.heap.size=s:=⟨_,rfl⟩
 obtain ⟨hw1,hw2⟩:=h.w22
 have hcp:=h.cap
 have hcm:cl≤9223372036854775807:=by have:=hcp.2;unfold maxLen at this;omega
 have hBs:B≤s:=by have:=h.lo.1;have:=h.head.lt;omega
 have hc1:=h.c1
 have HGl:=Lib.hid h.lo.2.2
 obtain ⟨Wd,hWd⟩:∃Wd,widthN m=Wd:=⟨_,rfl⟩
 have HWe:=Lib.hid hWd
 rw [hWd] at hc1 hw1 hw2 hcp ⊢
 have hcl:=hcp.1
 have hMk:=wvMake_ptrs w Wd (by omega)
 obtain ⟨wa,hwa⟩:∃wa,w.alloc (.cells (List.replicate Wd (Value.pointer none)).toArray 116)=wa:=⟨_,rfl⟩
 have la:Lies wa s 116 (List.replicate Wd (Value.pointer none)):=by rw [←hwa,←hs];exact lies_new w _ _
 have ka:Below s w wa:=by rw [←hwa,←hs];exact (Below.refl _ _).alloc (Nat.le_refl _) _
 rw [hwa,hs] at hMk
 have hgw:g < s:=by rw [←hs];exact h.head.lt
 have hc1a:wa.cell? ⟨g,1,none⟩=some (.slice (some ⟨gl,0,none⟩) Wd cl):=(ka.cell (p:=⟨g,1,none⟩) hgw).trans hc1
 have H0:Hid (LvIn w wa B s n Wd 0 V):=Lib.hid ⟨_,List.length_replicate,la,fun j hj=>absurd hj (Nat.not_lt_zero j)⟩
 have HK:=Lib.hid ka
 clear h hWd hcp hwa la ka
 go_enter Tryz.func103,Tryz.ntmps103
 go_wp2_with fail
 go_loopw [20] (fun v wr=>∃k:Nat,k≤Wd∧v=.int .i64 (k:Int)∧Hid (LvIn w wr B s n Wd k V)∧Hid (Below s w wr)) (fun v _=>Wd - (intOf v).toNat)
 case atStart=>exact ⟨0,Nat.zero_le _,rfl,H0,HK⟩
 case round=>
  clear H0 HK hMk hc1a hc1
  obtain ⟨k,hk,rfl,hL,hB⟩:=hrel
  by_cases hlt:k < Wd
  · have hlti:(k:Int) < (Wd:Int):=by omega
    obtain ⟨gv,gw,av,ws,hcell0,hvc0⟩:=HH.out.row k (by rw [HWe.out];exact hlt)
    obtain ⟨Aa,za,ca,hav⟩:=HH.out.sl k gv (by rw [HWe.out];exact hlt) hcell0
    obtain rfl:av=.slice Aa za ca:=Option.some.inj (hvc0.c3.symm.trans hav)
    rw [HWe.out] at hvc0
    have hcell:wr.cell? ⟨gl,k,none⟩=some (.pointer (some ⟨gv,0,none⟩)):=(hB.out.cell (p:=⟨gl,k,none⟩) (by rw [←hs];exact HGl.out)).trans hcell0
    have hvc:=hvc0.keep (w':=wr) (by rw [hs];exact hB.out)
    have v0:=hvc.c0
    have v1:=hvc.c1
    have v2:=hvc.c2
    have v3:=hvc.c3
    obtain ⟨cs,hlen,hl,hcs⟩:=hL.out
    obtain ⟨u,hu⟩:∃u,cs[k]?=some u:=⟨_,List.getElem?_eq_getElem (by rw [hlen];exact hlt)⟩
    have hszs:=hB.out.size
    have hsl:=hl.lt
    obtain ⟨gc,hgc⟩:∃gc,wr.heap.size=gc:=⟨_,rfl⟩
    obtain ⟨wx,hwx⟩:∃wx,wr.alloc (.cells #[.int .i64 (n:Int),.int .i64 ((cnt (levBit V n Wd k) n:Nat):Int),.slice (some ⟨gw,0,none⟩) ws.length ws.length,.slice Aa za ca] 191)=wx:=⟨_,rfl⟩
    have lc:Lies wx gc 191 [.int .i64 (n:Int),.int .i64 ((cnt (levBit V n Wd k) n:Nat):Int),.slice (some ⟨gw,0,none⟩) ws.length ws.length,.slice Aa za ca]:=by rw [←hwx,←hgc];exact lies_new wr _ _
    have hsame:∀q,q < wr.heap.size→wx.heap[q]?=wr.heap[q]?:=fun q hq=>by rw [←hwx];exact Below.heap_alloc wr _ q hq
    have lx:Lies wx s 116 cs:=by rw [←hwx];exact hl.alloc _
    have kx:Below s w wx:=by rw [←hwx];exact hB.out.alloc (by omega) _
    have hcu:wx.cell? ⟨s,k,none⟩=some u:=(lx.cell k).trans hu
    have hfu:=lx.free k
    have HL2:Hid (LvIn w (wx.setCell ⟨s,k,none⟩ (.pointer (some ⟨gc,0,none⟩))) B s n Wd (k+1) V):=Lib.hid (by
     refine ⟨cs.set k (.pointer (some ⟨gc,0,none⟩)),by rw [List.length_set];exact hlen,lx.put k _,fun j hj=>?_⟩
     by_cases e:j=k
     · subst e
       exact ⟨gc,gv,gw,_,ws,by rw [List.getElem?_set_self (by rw [hlen];exact hlt)],by omega,lc.far (p:=⟨s,j,none⟩) (by show gc≠s;omega) _,hvc0⟩
     · obtain ⟨gc',gv',gw',av',ws',h1,h2,h3,h4⟩:=hcs j (by omega)
       have h3':=h3.same (w':=wx) (hsame gc' h3.lt)
       exact ⟨gc',gv',gw',av',ws',by rw [List.getElem?_set_ne (by omega)];exact h1,h2,h3'.far (p:=⟨s,k,none⟩) (by show gc'≠s;omega) _,h4⟩)
    have HB2:Hid (Below s w (wx.setCell ⟨s,k,none⟩ (.pointer (some ⟨gc,0,none⟩)))):=Lib.hid (kx.setCell (p:=⟨s,k,none⟩) (Nat.le_refl _) _)
    have hwl:ws.length≤9223372036854775807:=by have:=hvc0.bits.len;have:=hvc0.bits.few;omega
    generalize cnt (levBit V n Wd k) n=cn at v1 hwx
    clear hsame hvc hvc0 hL hB lc lx kx hcs hl hu hav hcell0
    go_wp2_with fail
    go_roundw
    case rel=>exact ⟨k+1,by omega,by go_num,HL2,HB2⟩
    case measure=>simp [intOf];omega
  · obtain rfl:k=Wd:=by omega
    have hge:¬(k:Int) < (k:Int):=by omega
    go_wp2_with fail
    go_ret
    refine ⟨⟨_,_,rfl,fun j hj=>?_⟩,by rw [hs];exact hB.out⟩
    obtain ⟨cs,hlen,hl,hcs⟩:=hL.out
    obtain ⟨gc,gv,gw,av,ws,h1,h2,h3,h4⟩:=hcs j hj
    have h5:=h4.keep (w':=wr) (by rw [hs];exact hB.out)
    exact ⟨_,_,rfl,hl.lt,by rw [Addr.add_mid,Nat.zero_add,hl.cell];exact h1,gc,gw,av,ws,rfl,⟨h3,h5.body,h5.row,h5.bits,by omega,h5.lo.2⟩⟩
end Go.Proofs.YtcidobpbepeakaaGreat
