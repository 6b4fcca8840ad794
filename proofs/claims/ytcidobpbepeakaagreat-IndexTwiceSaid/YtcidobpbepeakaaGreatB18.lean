/- Texts of ours, joined: VecNew. -/
import Derived.Test.YtcidobpbepeakaaGreatB11
import Derived.Deep.LoopGhost
import Derived.Deep.QuietTactic
import Derived.BigQuiet
import Derived.Deep.RegionWith
import Derived.Shelf.Abstract
import Derived.Deep.RegionHeld3
import Derived.Deep.RegionLaw
import Derived.Deep.DeepCutAuto
import Derived.Deep.AppendLies
import Derived.Deep.DrawnRows
set_option maxRecDepth 1000000
set_option maxHeartbeats 6400000
namespace Go.Proofs.YtcidobpbepeakaaGreat
open Go.RowKit
theorem closure_any (F:Nat) (eg:∀args w,(callFunc F args).run Tryz.prog w=.ok (.enter F args) w) (recv:Value) (bf bk i k m:Nat) (W:World) (hf:W.cell? ⟨bf,0,none⟩=some (.func (.func F) #[recv] #[])) (hk:W.cell? ⟨bk,0,none⟩=some (.int .i64 (k:Int)))
    (hi:i < 4194304) (hc:∀q,Calls Tryz.prog F #[recv,.int .i64 ((i:Int)+1)] (W.drewN q) fun e w'=>e=.returned (.int .i64 (m:Int))∧W.drewN q=w'):
    Calls Tryz.prog 180 #[.int .i64 (i:Int),.pointer (some ⟨bf,0,none⟩),.pointer (some ⟨bk,0,none⟩)] W fun e w'=>e=.returned (.bool (decide (k < m)))∧∃q,w'=W.drewN q:=by
 have e1:IntKind.i64.wrap ((i:Int)+1)=(i:Int)+1:=IntWalk.i64_in _ (by omega)
 have HC:Hid (Calls Tryz.prog F #[recv,.int .i64 ((i:Int)+1)] W.drew fun e w'=>e=.returned (.int .i64 (m:Int))∧W.drew=w'):=Lib.hid (hc 1)
 clear hc
 go_enter Tryz.func180,Tryz.ntmps180
 go_wp2_with fail
 go_region_with (go_at_fn F;refine HC.out.mono ?_;rintro e w' ⟨rfl,rfl⟩)
 all_goals go_wp2
 all_goals
  go_ret
  exact ⟨rfl,1,rfl⟩
theorem search_any (f:Nat→Bool) (n k:Nat) (lf lk:Value) (w:World) (hn:n≤4194304) (hk:k < Pl.cnt f n)
    (hc:∀q i,i < n→Calls Tryz.prog 180 #[.int .i64 ((i:Nat):Int),lf,lk] (w.drewN q) fun e w'=>e=.returned (.bool (decide (k < Pl.cnt f (i+1))))∧∃q',w'=(w.drewN q).drewN q'):
    Calls Tryz.prog 67 #[.int .i64 (n:Int),.func (.func 180) #[] #[lf,lk]] w fun e w'=>e=.returned (.int .i64 (Pl.sel f n k))∧∃q,w'=w.drewN q:=by
 have HF:=Lib.hid hc
 have HK:=Lib.hid hk
 clear hc hk
 go_enter Tryz.func67,Tryz.ntmps67
 go_wp2
 go_loopg [5,6] n (fun kx s5 s6 wr=>∃(lo hi q:Nat),s5=.int .i64 lo∧s6=.int .i64 hi∧lo≤hi∧hi≤n∧hi - lo≤kx∧wr=w.drewN q∧
  Hid ((∀t,t < lo→Pl.cnt f (t+1)≤k)∧(∀t,hi≤t→t < n→k < Pl.cnt f (t+1))))
 case atStart=>exact ⟨0,n,0,rfl,rfl,Nat.zero_le _,Nat.le_refl _,by omega,rfl,Lib.hid ⟨fun t ht=>absurd ht (Nat.not_lt_zero _),fun t h1 h2=>by omega⟩⟩
 case round=>
  obtain ⟨lo,hi,q,rfl,rfl,hlh,hin,hg,rfl,I⟩:=hrel
  by_cases hlt:lo < hi
  · obtain ⟨md,hmd⟩:∃md:Nat,md=(lo+hi) / 2:=⟨_,rfl⟩
    have hmd1:lo≤md:=by omega
    have hmd2:md < hi:=by omega
    have em:((lo:Int)+(hi:Int)) / 2=(md:Int):=by omega
    have hc:=HF.out q md (by omega)
    clear hmd
    by_cases hp:k < Pl.cnt f (md+1)
    · have ed:decide (k < Pl.cnt f (md+1))=true:=by simpa using hp
      rw [ed] at hc
      have HC:=Lib.hid hc
      have HP:=Lib.hid hp
      clear hc hp ed
      go_wp2_with (go_at_call 180;refine HC.out.mono ?_;rintro e w' ⟨rfl,nq,rfl⟩)
      go_roundg (md - lo)
      case measure=>omega
      case rel=>
       exact ⟨lo,md,q+nq,rfl,rfl,by omega,by omega,Nat.le_refl _,rfl,Lib.hid ⟨I.out.1,fun t ht htn=>Nat.lt_of_lt_of_le HP.out (Pl.cnt_mono f (by omega))⟩⟩
    · have ed:decide (k < Pl.cnt f (md+1))=false:=by simpa using hp
      rw [ed] at hc
      have HC:=Lib.hid hc
      have HP:=Lib.hid hp
      clear hc hp ed
      go_wp2_with (go_at_call 180;refine HC.out.mono ?_;rintro e w' ⟨rfl,nq,rfl⟩)
      go_roundg (hi - (md+1))
      case measure=>omega
      case rel=>
       exact ⟨md+1,hi,q+nq,by go_num,rfl,by omega,hin,Nat.le_refl _,rfl,Lib.hid ⟨fun t ht=>Nat.le_trans (Pl.cnt_mono f (show t+1≤md+1 by omega)) (Nat.le_of_not_lt HP.out),I.out.2⟩⟩
  · obtain rfl:lo=hi:=by omega
    have hs:=Lib.hid (Pl.sel_found' hin HK.out I.out.1 I.out.2)
    go_wp2
    go_ret
    exact ⟨ret_i64 hs.out.symm,q,rfl⟩
theorem find_out (v recv:Value) (F:Nat) (k:Int) (many:Nat) (w:World) (h:k < 0∨(many:Int)≤k):
    Calls Tryz.prog 145 #[v,.int .i64 k,.int .i64 (many:Int),.func (.func F) #[recv] #[]] w fun e w'=>e=.returned (.int .i64 (-1))∧Below w.heap.size w w':=by
 by_cases h0:k < 0
 all_goals
  go_enter Tryz.func145,Tryz.ntmps145
  go_wp2_with fail
  go_ret
  exact ⟨rfl,((Below.refl _ _).alloc (Nat.le_refl _) _).alloc (by simp) _⟩
theorem find_in (F:Nat) (eg:∀args w,(callFunc F args).run Tryz.prog w=.ok (.enter F args) w) (f:Nat→Bool) (g n k:Nat) (w:World) (hn:n≤4194304) (hk:k < Pl.cnt f n) (h0:w.cell? ⟨g,0,none⟩=some (.int .i64 (n:Int)))
    (hc:∀W,Below w.heap.size w W→∀i,i < n→Calls Tryz.prog F #[.pointer (some ⟨g,0,none⟩),.int .i64 ((i:Int)+1)] W fun e w'=>e=.returned (.int .i64 ((Pl.cnt f (i+1):Nat):Int))∧W=w'):
    Calls Tryz.prog 145 #[.pointer (some ⟨g,0,none⟩),.int .i64 (k:Int),.int .i64 ((Pl.cnt f n:Nat):Int),.func (.func F) #[.pointer (some ⟨g,0,none⟩)] #[]] w
     fun e w'=>e=.returned (.int .i64 (Pl.sel f n k))∧Below w.heap.size w w':=by
 obtain ⟨W0,hW0⟩:∃W0,W0=(w.alloc (.cells #[.int .i64 (k:Int)] 3)).alloc (.cells #[.func (.func F) #[.pointer (some ⟨g,0,none⟩)] #[]] 103):=⟨_,rfl⟩
 have hB0:Below w.heap.size w W0:=by rw [hW0];exact ((Below.refl _ _).alloc (Nat.le_refl _) _).alloc (by simp) _
 have l1:=lies_new w 3 [.int .i64 (k:Int)]
 have l2:=lies_new (w.alloc (.cells #[.int .i64 (k:Int)] 3)) 103 [.func (.func F) #[.pointer (some ⟨g,0,none⟩)] #[]]
 have l1':Lies W0 w.heap.size 3 [.int .i64 (k:Int)]:=by rw [hW0];exact l1.alloc _
 have l2':Lies W0 (w.heap.size+1) 103 [.func (.func F) #[.pointer (some ⟨g,0,none⟩)] #[]]:=by rw [hW0];rw [size_alloc] at l2;exact l2
 have hg0:W0.cell? ⟨g,0,none⟩=some (.int .i64 (n:Int)):=(hB0.cell (p:=⟨g,0,none⟩) (World.block_lt_of_cell? _ _ h0)).trans h0
 rw [hW0] at hg0
 have hck:=l1'.cell 0
 have hcf:=l2'.cell 0
 have hm:=Pl.cnt_le f n
 have HS:=search_any f n k (.pointer (some ⟨w.heap.size+1,0,none⟩)) (.pointer (some ⟨w.heap.size,0,none⟩)) W0 hn hk (fun q i hi=>
  closure_any F eg (.pointer (some ⟨g,0,none⟩)) (w.heap.size+1) w.heap.size i k (Pl.cnt f (i+1)) (W0.drewN q) hcf hck (by omega) (fun q'=>hc _ (below_drewN' (below_drewN' hB0 q) q') i hi))
 rw [hW0] at HS hB0
 have HH:=Lib.hid HS
 have HB:=Lib.hid hB0
 have d1:decide ((k:Int) < 0)=false:=by simp
 have d2:decide (Pl.cnt f n≤k)=false:=by simp;omega
 clear hW0 hB0 l1 l2 l1' l2' hck hcf HS hc W0
 generalize Pl.cnt f n=m at hk hm d2 ⊢
 go_enter Tryz.func145,Tryz.ntmps145
 go_wp2_with fail
 refine HH.out.mono ?_
 rintro e w' ⟨rfl,q,rfl⟩
 go_wp2_with fail
 go_ret
 exact ⟨rfl,below_drewN' HB.out q⟩
section
variable {w w':World} {B g gw n:Nat} {av:Value} {ws:List Nat} {f:Nat→Bool}
theorem eg_zeros:∀args w,(callFunc 146 args).run Tryz.prog w=.ok (.enter 146 args) w:=enters_of Tryz.func146 (by kernel_rfl) rfl
theorem find_zeros (h:Vc w B g gw av n ws f) (k:Int):
    Calls Tryz.prog 145 #[.pointer (some ⟨g,0,none⟩),.int .i64 k,.int .i64 ((Pl.cnt (inv f) n:Nat):Int),.func (.func 146) #[.pointer (some ⟨g,0,none⟩)] #[]] w
     fun e w'=>e=.returned (.int .i64 (Pl.sel (inv f) n k))∧Below w.heap.size w w':=by
 by_cases hk:k < 0∨((Pl.cnt (inv f) n:Nat):Int)≤k
 · rw [Pl.sel_out hk]
   exact find_out _ _ _ _ _ _ hk
 · obtain ⟨m,rfl⟩:∃m:Nat,k=m:=⟨k.toNat,by omega⟩
   refine find_in 146 eg_zeros (inv f) g n m w h.bits.few (by omega) h.c0 (fun W hb i hi=>?_)
   have c:=zeros_any (h.keep hb) ((i:Int)+1)
   rw [show ((i:Int)+1)=((i+1:Nat):Int) from rfl,Pl.clamp_nat (by omega)] at c
   exact c
theorem selectZero_any (h:Vc w B g gw av n ws f) (k:Int):
    Calls Tryz.prog 101 #[.pointer (some ⟨g,0,none⟩),.int .i64 k] w fun e w'=>e=.returned (.int .i64 (Pl.sel (inv f) n k))∧Below w.heap.size w w':=by
 have HO:=Lib.hid (vones_any h)
 have HL:=Lib.hid (vlen_any h)
 have HF:=Lib.hid (find_zeros h k)
 have hn:=Pl.cnt_not f n
 have hf:=h.bits.few
 have e0:(n:Int) - ((Pl.cnt f n:Nat):Int)=((Pl.cnt (inv f) n:Nat):Int):=by unfold inv;omega
 clear h hn
 go_enter Tryz.func101,Tryz.ntmps101
 go_wp2_with (first
  | (go_at_call 99;refine HL.out.mono ?_;rintro e w' ⟨rfl,rfl⟩)
  | (go_at_call 100;refine HO.out.mono ?_;rintro e w' ⟨rfl,rfl⟩)
  | (go_at_call 145;refine HF.out.mono ?_;rintro e w1 ⟨rfl,hb⟩))
 go_ret
 exact ⟨rfl,hb⟩
end
end Go.Proofs.YtcidobpbepeakaaGreat
namespace Go.Proofs.YtcidobpbepeakaaGreat
open Go.RowKit
attribute [local go_sem ↓] Go.wp_at_zero Go.wp_at_succ
theorem info_int:(Tryz.prog.info? 3).map (fun i=>(i.zero,i.size,i.bytes))=some (some (.int .i64 0),1,8):=by kernel_rfl
def acells (ws:List Nat) (m:Nat):List Value:=(List.range m).map fun (k:Nat)=>Value.int .i64 ((Pl.cnt (Pl.bitAt ws) (512*k):Nat):Int)
theorem acells_snoc (ws:List Nat) (m:Nat):acells ws (m+1)=acells ws m++[.int .i64 ((Pl.cnt (Pl.bitAt ws) (512*m):Nat):Int)]:=by
 unfold acells
 rw [List.range_succ]
 simp
theorem acells_at (ws:List Nat) (m k:Nat) (h:k < m):(acells ws m)[k]?=some (.int .i64 ((Pl.cnt (Pl.bitAt ws) (512*k):Nat):Int)):=by
 unfold acells
 rw [List.getElem?_map,List.getElem?_range h]
 rfl
structure Cting (w0 wr:World) (B g gw n i m:Nat) (ws:List Nat) (av:Value):Prop where
 head:Lies wr g 191 [.int .i64 (n:Int),.int .i64 ((Pl.cnt (Pl.bitAt ws) (64*i):Nat):Int),.slice (some ⟨gw,0,none⟩) ws.length ws.length,av]
 body:Lies wr gw 136 (wcells ws)
 row:wr.ownsRow w0.heap.size 3 1 av m (acells ws m)
 below:Below B w0 wr
 size:w0.heap.size≤wr.heap.size
section
variable {w0 wr w':World} {B g gw n i m:Nat} {ws:List Nat} {av:Value}
theorem Cting.off (h:Cting w0 wr B g gw n i m ws av) (hg:g < w0.heap.size):av.ownBlock≠some g:=by
 intro e
 have:=(h.row.lt g e).1
 omega
theorem Cting.add (h:Cting w0 wr B g gw n i m ws av) (hg:g < w0.heap.size) (hB:B≤g) (hne:g≠gw):
    Cting w0 (wr.setCell ⟨g,1,none⟩ (.int .i64 ((Pl.cnt (Pl.bitAt ws) (64*(i+1)):Nat):Int))) B g gw n (i+1) m ws av:=by
 refine ⟨h.head.put 1 _,h.body.far (Ne.symm hne) _,?_,h.below.setCell hB _,by simpa [World.setCell] using h.size⟩
 exact h.row.kept (grownBy_put (g:=g) (grownBy_of_below (Below.refl _ _) _) 1 _) (.inr (h.off hg))
theorem Cting.added {y:Int} (h:Cting w0 wr B g gw n i m ws av) (hg:g < w0.heap.size) (hB:B≤g) (hne:g≠gw) (hy:y=((Pl.cnt (Pl.bitAt ws) (64*(i+1)):Nat):Int)):
    Cting w0 (wr.setCell ⟨g,1,none⟩ (.int .i64 y)).drew B g gw n (i+1) m ws av:=by
 subst hy
 have k:=h.add hg hB hne
 exact ⟨k.head.drew,k.body.drew,k.row.drew,below_drewN' k.below 1,k.size⟩
theorem Cting.snoc {gg cap:Nat} {w1:World} {x:Value} (h:Cting w0 wr B g gw n i m ws av) (hg:g < w0.heap.size) (hgw:gw < w0.heap.size) (hB:B≤g) (hne:g≠gw) (hx:x=.int .i64 ((Pl.cnt (Pl.bitAt ws) (512*m):Nat):Int))
    (hown:w1.ownsRow w0.heap.size 3 1 (.slice (some ⟨gg,0,none⟩) (m+1) cap) (m+1) (acells ws m++[x])) (hgrow:(wr.alloc (.cells #[x] 3)).drew.grownBy w1 av.ownBlock):
    Cting w0 (w1.setCell ⟨g,3,none⟩ (.slice (some ⟨gg,0,none⟩) (m+1) cap)) B g gw n i (m+1) ws (.slice (some ⟨gg,0,none⟩) (m+1) cap):=by
 subst hx
 have ha:wr.grownBy w1 av.ownBlock:=grownBy_trans (grownBy_drew (World.grownBy_alloc wr _ _)) hgrow
 have hgg:w0.heap.size≤gg:=(hown.lt gg rfl).1
 have hoff:∀k,k < w0.heap.size→some k≠av.ownBlock:=fun k hk e=>by have:=(h.row.lt k e.symm).1;omega
 have h1:=h.head.grown ha (hoff g hg)
 have h2:=h.body.grown ha (hoff gw hgw)
 refine ⟨h1.put 3 _,h2.far (Ne.symm hne) _,?_,(h.below.grown ha ?_ ?_).setCell hB _,?_⟩
 · rw [acells_snoc]
   exact hown.kept (grownBy_put (g:=g) (grownBy_of_below (Below.refl _ _) _) 3 _) (.inr (by simp [Value.ownBlock];omega))
 · have:=h.size;omega
 · intro k hk
   have:=(h.row.lt k hk).1
   omega
 · have:=h.size;have:=ha.size;simp [World.setCell];omega
end
theorem count_any (ws:List Nat) (B g gw n:Nat) (w:World) (hL:ws.length≤65536) (hh:Cting w w B g gw n 0 0 ws (.slice none 0 0)) (hB:B≤g) (hg:g < w.heap.size) (hgw:gw < w.heap.size) (hne:g≠gw) (hs:Pl.Small ws):
    Calls Tryz.prog 144 #[.pointer (some ⟨g,0,none⟩)] w fun e w'=>e=.returned (.tuple #[])∧∃av,Cting w w' B g gw n ws.length ((ws.length+7) / 8) ws av:=by
 obtain ⟨i0,hi0,hz0,hs0,hb0⟩:=info_parts info_int
 obtain ⟨L,hLL⟩:∃L,ws.length=L:=⟨_,rfl⟩
 have hc2:=hh.head.cell 2
 have HL:=Lib.hid hLL
 simp only [List.getElem?_cons_succ,List.getElem?_cons_zero] at hc2
 rw [hLL] at hc2 hL ⊢
 clear hLL
 go_enter Tryz.func144,Tryz.ntmps144
 go_wp2_with fail
 go_loopw [9] (fun v wr=>∃(i:Nat) (av:Value),i≤L∧v=.int .i64 (i:Int)∧Hid (Cting w wr B g gw n i ((i+7) / 8) ws av)) (fun v _=>L - (intOf v).toNat)
 case atStart=>exact ⟨0,_,Nat.zero_le _,rfl,Lib.hid hh⟩
 case round=>
  clear hh
  obtain ⟨i,av,hi,rfl,H⟩:=hrel
  by_cases hlt:i < L
  · have hword:wr.cell? ⟨gw,i,none⟩=some (.int .u64 ((ws.getD i 0:Nat):Int)):=(H.out.body.cell i).trans (wcells_at ws i (by rw [HL.out];exact hlt))
    have hx:=hs.at_ i
    have hstep:=Pl.cnt_word ws i
    generalize ws.getD i 0=x at hword hx hstep
    have HO:∀W,Hid (Calls Tryz.prog 160 #[.int .u64 (x:Int)] W fun e w'=>e=.returned (.int .i64 (Pl.pop x:Nat))∧W=w'):=fun W=>Lib.hid (ones64_any x hx W)
    have hp:=Pl.pop_le x
    have hm:=Pl.cnt_le (Pl.bitAt ws) (64*i)
    have HS:=Lib.hid hstep
    clear hstep hx
    by_cases h8:i%8=0
    · have e8:((i:Int)%8==0)=true:=by simp;omega
      have hc1:wr.cell? ⟨g,1,none⟩=some (.int .i64 ((Pl.cnt (Pl.bitAt ws) (64*i):Nat):Int)):=H.out.head.cell 1
      have hc3:wr.cell? ⟨g,3,none⟩=some av:=H.out.head.cell 3
      have hown:=H.out.row
      have hoff:=H.out.off hg
      have hsz:=H.out.size
      have hm2:(i+7) / 8+1≤65536:=by omega
      have hbase:w.heap.size≤wr.heap.size+1:=by omega
      obtain ⟨t,ht⟩:∃t,Pl.cnt (Pl.bitAt ws) (64*i)=t:=⟨_,rfl⟩
      rw [ht] at hc1 hm
      have HT:=Lib.hid ht
      have lg:=Nat.lt_of_lt_of_le hg hsz
      clear ht
      have H0:=H
      go_upto_region 4 with (fail)
      go_cut [] (fun wx=>∃av',Cting w wx B g gw n i ((i+7) / 8+1) ws av')
      case first=>
       go_region_law
        ((refine step_append_lies _ (by rfl) _ _ _ (by rfl) w.heap.size 3 i0 _ 1 8 Tryz.underlying34 hi0 hz0 hs0 hb0 rfl (by omega) av ((i+7) / 8) (acells ws ((i+7) / 8)) (by rfl) ((hown.alloc _).drew)
            ⟨wr.heap.size,0,none⟩ 1 1 [.int .i64 (t:Int)] (by rfl) (by rfl) (World.news_of_block (cs:=#[.int .i64 (t:Int)]) (t:=3) (fr:=(0,0)) (heap_alloc_new wr _)) (by simp [Value.oneCell'])
            (by omega) (by unfold maxLen;omega) (by omega) (by simp;omega) (wr.heap.size+1) (by simp) ?_;intro gg cap w1 hown1 hgrow hat hlt1;have hfz:w1.frozen? ⟨g,3,none⟩=false:=(World.frozen?_of_block (a:=⟨g,3,none⟩) (hgrow.block g (by simp;omega) (Ne.symm hoff))).trans (((H.out.head.alloc _).drew).free 3);have hcx:w1.cell? ⟨g,3,none⟩=some av:=(World.cell?_of_block (a:=⟨g,3,none⟩) (hgrow.block g (by simp;omega) (Ne.symm hoff))).trans (((H.out.head.alloc _).drew).cell 3)))
       all_goals
        go_wp2_with fail
        go_meet
        exact ⟨_,H0.out.snoc hg hgw hB hne (by rw [show 512*((i+7) / 8)=64*i by omega,HT.out]) hown1 hgrow⟩
      case rest=>
       obtain ⟨av',hX⟩:=hcut
       have hX1:wc.cell? ⟨g,1,none⟩=some (.int .i64 (t:Int)):=by rw [←HT.out];exact hX.head.cell 1
       have hXf:=hX.head.free 1
       have e9:(i+7) / 8+1=(i+1+7) / 8:=by omega
       rw [e9] at hX
       have HX:=Lib.hid hX
       clear hX e9 hown hoff hc1 hc3 hword H H0
       go_wp2_with fail
       go_region_with (go_at_call 160;refine (HO _).out.mono ?_;rintro e w' ⟨rfl,rfl⟩)
       all_goals
        go_wp2_with fail
        go_roundw
        case rel=>exact ⟨i+1,av',by omega,by go_num,Lib.hid (HX.out.added hg hB hne (by rw [HS.out,HT.out];omega))⟩
        case measure=>simp [intOf];omega
    · have e8:((i:Int)%8==0)=false:=by rw [beq_eq_false_iff_ne];omega
      obtain ⟨t,ht⟩:∃t,Pl.cnt (Pl.bitAt ws) (64*i)=t:=⟨_,rfl⟩
      rw [ht] at hm
      have hX1:wr.cell? ⟨g,1,none⟩=some (.int .i64 (t:Int)):=by rw [←ht];exact H.out.head.cell 1
      have hXf:=H.out.head.free 1
      have HT:=Lib.hid ht
      have e9:(i+7) / 8=(i+1+7) / 8:=by omega
      rw [e9] at H
      clear ht e9
      go_wp2_with fail
      go_region_with (go_at_call 160;refine (HO _).out.mono ?_;rintro e w' ⟨rfl,rfl⟩)
      all_goals
       go_wp2_with fail
       go_roundw
       case rel=>exact ⟨i+1,av,by omega,by go_num,Lib.hid (H.out.added hg hB hne (by rw [HS.out,HT.out];omega))⟩
       case measure=>simp [intOf];omega
  · obtain rfl:i=L:=by omega
    go_wp2_with fail
    go_end0
    exact ⟨rfl,av,H.out⟩
end Go.Proofs.YtcidobpbepeakaaGreat
namespace Go.Proofs.YtcidobpbepeakaaGreat
open Go.RowKit
def VecPost (w:World) (n:Nat) (f:Nat→Bool) (e:Ending) (w':World):Prop:=
 ∃(g gw:Nat) (av:Value) (ws:List Nat),e=.returned (.tuple #[.pointer (some ⟨g,0,none⟩),.int .i64 0])∧Vc w' w.heap.size g gw av n ws f∧Below w.heap.size w w'
def VecPostS (w:World) (n:Nat) (f:Nat→Bool) (e:Ending) (w':World):Prop:=
 ∃(g gw:Nat) (av:Value) (ws:List Nat),e=.returned (.tuple #[.pointer (some ⟨g,0,none⟩),.int .i64 0])∧Vc w' w.heap.size g gw av n ws f∧Below w.heap.size w w'∧∃(A:Option Addr) (q c:Nat),av=.slice A q c
theorem bits_total {ws:List Nat} {n:Nat} {f:Nat→Bool} (h:Bits ws n f):Pl.cnt (Pl.bitAt ws) (64*ws.length)=Pl.cnt f n:=by
 have hl:n≤64*ws.length:=by rw [h.len];omega
 have e:64*ws.length=n+(64*ws.length - n):=by omega
 rw [e,Pl.cnt_add,h.cnt_same (Nat.le_refl _)]
 have z:Pl.cnt (fun j=>Pl.bitAt ws (n+j)) (64*ws.length - n)=0:=Pl.cnt_zero fun j _=>h.behind _ (by omega)
 omega
theorem vc_of_cting {w w':World} {B g gw n:Nat} {ws:List Nat} {av:Value} {f:Nat→Bool} (h:Cting w w' B g gw n ws.length ((ws.length+7) / 8) ws av) (hb:Bits ws n f) (hg:B≤g) (hgw:B≤gw) (hB:B≤w.heap.size):Vc w' B g gw av n ws f:=by
 refine ⟨?_,h.body,fun k hk=>?_,hb,hg,hgw⟩
 · have e:=h.head
   rw [bits_total hb] at e
   exact e
 · have hm:k < (ws.length+7) / 8:=by omega
   obtain ⟨ga,c,e,hlo,hlt⟩:=h.row.form (by omega)
   subst e
   refine ⟨ga,c,rfl,by omega,hlt,?_⟩
   have hn:512*k≤n:=by have:=hb.len;omega
   rw [hb.cnt_same hn]
   exact (h.row.cellAt k (by omega)).trans (acells_at ws _ k hm)
theorem of_full {w:World} {g gs n:Nat} {ws:List Nat} {x:Nat→Nat} (h:Full w g gs 1 n ws x):Bits ws n (fun i=>(x i).testBit 0) where
 few:=h.few
 len:=by have:=h.holds.len;rw [Nat.mul_one] at this;exact this
 small:=h.holds.small
 same:=fun i hi=>by have:=h.holds.bits i 0 hi (by decide);rw [Nat.mul_one,Nat.add_zero] at this;exact this
 behind:=fun i hi=>h.holds.behind i (by omega)
theorem vnew_sl {w:World} {gp gps n:Nat} {ws:List Nat} {x:Nat→Nat} (h:Full w gp gps 1 n ws x):
    Calls Tryz.prog 98 #[.pointer (some ⟨gp,0,none⟩)] w (VecPostS w n (fun i=>(x i).testBit 0)):=by
 have hb:=of_full h
 have hL:ws.length≤65536:=by have:=hb.len;have:=hb.few;omega
 have hs:=hb.small
 have HB:=Lib.hid hb
 have HWd:=Lib.hid (width_any h.pk)
 have HLen:=Lib.hid (len_any h.pk)
 have HWs:=Lib.hid (words_any h.pk (by omega))
 clear h hb
 go_enter Tryz.func98,Tryz.ntmps98
 go_wp2_with (first
  | (go_at_call 141;refine HWd.out.mono ?_;rintro e w' ⟨rfl,rfl⟩)
  | (go_at_call 142;refine HLen.out.mono ?_;rintro e w' ⟨rfl,rfl⟩))
 refine HWs.out.mono ?_
 rintro e w1 ⟨gw,rfl,hgw,hl,hb1⟩
 have hlt:=hl.lt
 have HC:=fun (W:World) (hW:W=w1.alloc (.cells #[.int .i64 (n:Int),.int .i64 0,.slice (some ⟨gw,0,none⟩) ws.length ws.length,.slice none 0 0] 191))=>
  count_any ws w.heap.size w1.heap.size gw n W hL (by
   subst hW
   exact ⟨lies_new w1 _ [.int .i64 (n:Int),.int .i64 0,.slice (some ⟨gw,0,none⟩) ws.length ws.length,.slice none 0 0],hl.alloc _,World.ownsRow_nil _ _ _ _,Below.refl _ _,Nat.le_refl _⟩)
   (by have:=hb1.size;omega) (by subst hW;simp) (by subst hW;simp;omega) (by omega) hs
 have HC1:=Lib.hid (HC _ rfl)
 clear HC
 have hB1:Below w.heap.size w (w1.alloc (.cells #[.int .i64 (n:Int),.int .i64 0,.slice (some ⟨gw,0,none⟩) ws.length ws.length,.slice none 0 0] 191)):=hb1.alloc hb1.size _
 have HB1:=Lib.hid hB1
 clear hB1
 go_wp2_with fail
 refine HC1.out.mono ?_
 rintro e w2 ⟨rfl,av,hct⟩
 go_wp2_with fail
 go_ret2
 exact ⟨w1.heap.size,gw,av,ws,rfl,vc_of_cting hct HB.out hb1.size hgw (by simp;have:=hb1.size;omega),HB1.out.trans hct.below,by
  rcases hct.row.2 with ⟨e,_⟩ | ⟨ga,cap,cur,e,_⟩
  · exact ⟨none,0,0,e⟩
  · exact ⟨_,_,cap,e⟩⟩
theorem vnew_any {w:World} {gp gps n:Nat} {ws:List Nat} {x:Nat→Nat} (h:Full w gp gps 1 n ws x):
    Calls Tryz.prog 98 #[.pointer (some ⟨gp,0,none⟩)] w (VecPost w n (fun i=>(x i).testBit 0)):=(vnew_sl h).mono fun _ _ ⟨g,gw,av,ws,h1,h2,h3,_⟩=>⟨g,gw,av,ws,h1,h2,h3⟩
end Go.Proofs.YtcidobpbepeakaaGreat
