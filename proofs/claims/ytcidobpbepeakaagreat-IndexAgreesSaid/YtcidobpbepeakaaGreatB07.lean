/- Texts of ours, joined: Full Vec. -/
import Derived.Test.YtcidobpbepeakaaGreatB01
import Derived.StillTailTactics
set_option maxRecDepth 1000000
set_option maxHeartbeats 6400000
namespace Go.Proofs.YtcidobpbepeakaaGreat
open Go.RowKit
section
variable {w:World} {g gs width n:Nat} {ws:List Nat}
theorem mix_num {x m v r width:Nat} (hx:x < 2^64) (hm:m=2^width - 1):
    bits .or .u64 (bits .andNot .u64 (x:Int) (IntKind.u64.wrap ((m:Int)*2^r))) (IntKind.u64.wrap ((v:Int)*2^r))=((Pl.mixN x ((2^width - 1)*2^r%2^64) (v*2^r%2^64):Nat):Int):=by
 have b1:m*2^r%2^64 < 2^64:=Nat.mod_lt _ (by decide)
 have b2:v*2^r%2^64 < 2^64:=Nat.mod_lt _ (by decide)
 rw [shl_u,shl_u,andNot_u hx b1,or_u (Nat.lt_of_le_of_lt Nat.and_le_left hx) b2,←hm]
 rfl
theorem mix_num' {x m v s width:Nat} (hx:x < 2^64) (hm:m=2^width - 1) (hm64:m < 2^64) (hv:v < 2^64):
    bits .or .u64 (bits .andNot .u64 (x:Int) ((m:Int) / 2^s)) ((v:Int) / 2^s)=((Pl.mixN x ((2^width - 1) / 2^s) (v / 2^s):Nat):Int):=by
 rw [shr_u,shr_u,andNot_u hx (Pl.div_lt_64 hm64),or_u (Nat.lt_of_le_of_lt Nat.and_le_left hx) (Pl.div_lt_64 hv),←hm]
 rfl
def SetPost (w:World) (g gs width n:Nat) (ws:List Nat) (e:Ending) (w':World):Prop:=e=.returned (.bool true)∧Pk w' g gs width n ws∧w.grownBy w' (some gs)
theorem set_short (h:Pk w g gs width n ws) (hs:Pl.Small ws) (h1:1≤width) (hw:width≤64) (hn:n≤4194304) (hL:n*width≤64*ws.length) (i v q r x0:Nat) (hi:i < n) (hv:v < 2^width)
    (hq:i*width / 64=q) (hr:i*width%64=r) (hshort:¬64 < r+width) (hx0:ws.getD q 0=x0):
    Calls Tryz.prog 133 #[.pointer (some ⟨g,0,none⟩),.int .i64 i,.int .u64 v] w (SetPost w g gs width n (Pl.setN ws width i v)):=by
 have hr64:r < 64:=by rw [←hr];exact Nat.mod_lt _ (by decide)
 obtain ⟨hq1,hq2⟩:=q_small hw hi hn hq hL h1
 have b0:x0 < 2^64:=by rw [←hx0];exact hs.at_ _
 have HS:=Lib.hid (show Pl.setN ws width i v=ws.set q (Pl.mixN x0 ((2^width - 1)*2^r%2^64) (v*2^r%2^64)) by
  unfold Pl.setN
  simp only [hq,hr,hx0,hshort,if_false])
 have hw0:=h.word q hq2
 rw [hx0] at hw0
 have hc0:=h.c0
 have hc2:=h.c2
 have hf:=h.body.free q
 have hc0':∀u,(w.setCell ⟨gs,q,none⟩ u).cell? ⟨g,0,none⟩=some (.int .i64 (width:Int)):=fun u=>(h.head.far h.ne_ u).cell 0
 have HP:=Lib.hid (place_any h i q r hw (by omega) hq hr)
 have hvi:(v:Int)≤((2^width - 1:Nat):Int):=by omega
 obtain ⟨m,hm⟩:∃m,m=2^width - 1:=⟨_,rfl⟩
 have HO:∀W,Hid (Calls Tryz.prog 157 #[.int .i64 width] W fun e w'=>e=.returned (.int .u64 (m:Int))∧W=w'):=fun W=>by rw [hm];exact Lib.hid (ones_any width hw W)
 rw [←hm] at hvi
 have HM:=Lib.hid (mix_num (v:=v) (r:=r) b0 hm)
 clear hx0 hq hr hv hm
 go_enter Tryz.func133,Tryz.ntmps133
 go_wp2_with (first
     | (go_at_call 155;refine (has_yes h i hi).mono ?_;rintro e w' ⟨rfl,rfl⟩)
     | (go_at_call 156;refine HP.out.mono ?_;rintro e w' ⟨rfl,rfl⟩)
     | (go_at_call 157;refine (HO _).out.mono ?_;rintro e w' ⟨rfl,rfl⟩))
 go_still_tail 21,(by kernel_rfl)
 change wpList _ _ _ _ _ w.drew
 go_wp2
 go_ret
 refine ⟨rfl,?_,?_⟩
 · rw [HS.out,HM.out]
   exact (h.put q _).drew
 · exact grownBy_drew (grownBy_put (grownBy_of_below (Below.refl _ _) _) q _)
theorem set_long (h:Pk w g gs width n ws) (hs:Pl.Small ws) (h1:1≤width) (hw:width≤64) (hn:n≤4194304) (hL:n*width≤64*ws.length) (i v q r x0 x1:Nat) (hi:i < n) (hv:v < 2^width)
    (hq:i*width / 64=q) (hr:i*width%64=r) (hlong:64 < r+width) (hx0:ws.getD q 0=x0) (hx1:ws.getD (q+1) 0=x1):
    Calls Tryz.prog 133 #[.pointer (some ⟨g,0,none⟩),.int .i64 i,.int .u64 v] w (SetPost w g gs width n (Pl.setN ws width i v)):=by
 have hr64:r < 64:=by rw [←hr];exact Nat.mod_lt _ (by decide)
 obtain ⟨hq1,hq2⟩:=q_small hw hi hn hq hL h1
 have hq3:=q_next hi hq hr hL hlong
 have b0:x0 < 2^64:=by rw [←hx0];exact hs.at_ _
 have b1:x1 < 2^64:=by rw [←hx1];exact hs.at_ _
 have hv64:v < 2^64:=Nat.lt_of_lt_of_le hv (Pl.two_pow_le_64 hw)
 have HS:=Lib.hid (show Pl.setN ws width i v=(ws.set q (Pl.mixN x0 ((2^width - 1)*2^r%2^64) (v*2^r%2^64))).set (q+1) (Pl.mixN x1 ((2^width - 1) / 2^(64 - r)) (v / 2^(64 - r))) by
  unfold Pl.setN
  simp only [hq,hr,hx0,hx1,hlong,if_true])
 have hw0:=h.word q hq2
 have hw1:=h.word (q+1) hq3
 rw [hx0] at hw0
 rw [hx1] at hw1
 have hc0:=h.c0
 have hc2:=h.c2
 have hf:=h.body.free q
 have hc0':∀u,(w.setCell ⟨gs,q,none⟩ u).cell? ⟨g,0,none⟩=some (.int .i64 (width:Int)):=fun u=>(h.head.far h.ne_ u).cell 0
 have HP:=Lib.hid (place_any h i q r hw (by omega) hq hr)
 have hvi:(v:Int)≤((2^width - 1:Nat):Int):=by omega
 obtain ⟨m,hm⟩:∃m,m=2^width - 1:=⟨_,rfl⟩
 have hm64:m < 2^64:=by rw [hm];have:=Pl.two_pow_le_64 hw;have:=Nat.two_pow_pos width;omega
 have HO:∀W,Hid (Calls Tryz.prog 157 #[.int .i64 width] W fun e w'=>e=.returned (.int .u64 (m:Int))∧W=w'):=fun W=>by rw [hm];exact Lib.hid (ones_any width hw W)
 rw [←hm] at hvi
 have HM:=Lib.hid (mix_num (v:=v) (r:=r) b0 hm)
 have HM1:=Lib.hid (mix_num' (v:=v) (s:=64 - r) b1 hm hm64 hv64)
 clear hx0 hx1 hq hr hv hm
 go_enter Tryz.func133,Tryz.ntmps133
 go_wp2_with (first
     | (go_at_call 155;refine (has_yes h i hi).mono ?_;rintro e w' ⟨rfl,rfl⟩)
     | (go_at_call 156;refine HP.out.mono ?_;rintro e w' ⟨rfl,rfl⟩)
     | (go_at_call 157;refine (HO _).out.mono ?_;rintro e w' ⟨rfl,rfl⟩))
 go_still_tail 21,(by kernel_rfl)
 change wpList _ _ _ _ _ w.drew
 go_wp2
 rw [HM.out]
 obtain ⟨y,hy⟩:∃y,Pl.mixN x0 ((2^width - 1)*2^r%2^64) (v*2^r%2^64)=y:=⟨_,rfl⟩
 rw [hy] at HS ⊢
 have hp1:=(h.put q y).drew
 have hg1:w.grownBy (w.setCell ⟨gs,q,none⟩ (.int .u64 (y:Int))).drew (some gs):=grownBy_drew (grownBy_put (grownBy_of_below (Below.refl _ _) _) q _)
 have hw1':(w.setCell ⟨gs,q,none⟩ (.int .u64 (y:Int))).drew.cell? ⟨gs,q+1,none⟩=some (.int .u64 (x1:Int)):=(World.cell?_setCell_other w ⟨gs,q,none⟩ ⟨gs,q+1,none⟩ _ (by simp)).trans hw1
 clear hy hw0 hw1 hc0 hc2 hf hc0'
 generalize (w.setCell ⟨gs,q,none⟩ (.int .u64 (y:Int))).drew=w1 at hp1 hg1 hw1' ⊢
 have hc2:=hp1.c2
 rw [List.length_set] at hc2
 have hf:=hp1.body.free (q+1)
 have es:64 - (r:Int)=((64 - r:Nat):Int):=by omega
 rw [es]
 clear es
 have hs64:64 - r≤64:=by omega
 generalize 64 - r=s at HS HM1 hs64 ⊢
 have e2:0≤(q:Int)+1:=by omega
 have e4:(q:Int)+1 < ws.length:=by omega
 have e3:((q:Int)+1).toNat=q+1:=by omega
 have e1:IntKind.i64.wrap ((q:Int)+1)=(q:Int)+1:=IntWalk.i64_in _ (by omega)
 go_still_tail 23,(by kernel_rfl)
 change wpList _ _ _ _ _ (World.drew _)
 go_wp2
 go_ret
 refine ⟨rfl,?_,?_⟩
 · rw [HS.out,HM1.out]
   exact (hp1.put (q+1) _).drew
 · exact grownBy_drew (grownBy_put hg1 (q+1) _)
theorem set_any (h:Pk w g gs width n ws) (hs:Pl.Small ws) (h1:1≤width) (hw:width≤64) (hn:n≤4194304) (hL:n*width≤64*ws.length) (i v:Nat) (hi:i < n) (hv:v < 2^width):
    Calls Tryz.prog 133 #[.pointer (some ⟨g,0,none⟩),.int .i64 i,.int .u64 v] w (SetPost w g gs width n (Pl.setN ws width i v)):=by
 by_cases hlong:64 < i*width%64+width
 · exact set_long h hs h1 hw hn hL i v _ _ _ _ hi hv rfl rfl hlong rfl rfl
 · exact set_short h hs h1 hw hn hL i v _ _ _ hi hv rfl rfl hlong rfl
end
end Go.Proofs.YtcidobpbepeakaaGreat
namespace Go.Proofs.YtcidobpbepeakaaGreat
open Go.RowKit
structure Full (w:World) (g gs width n:Nat) (ws:List Nat) (x:Nat→Nat):Prop where
 pk:Pk w g gs width n ws
 holds:Pl.Holds ws width n x
 few:n≤4194304
section
variable {w w':World} {g gs width n:Nat} {ws:List Nat} {x:Nat→Nat}
theorem Full.room (h:Full w g gs width n ws x):n*width≤64*ws.length:=by rw [h.holds.len];omega
theorem Full.keep (h:Full w g gs width n ws x) (h1:w'.heap[g]?=w.heap[g]?) (h2:w'.heap[gs]?=w.heap[gs]?):Full w' g gs width n ws x:=⟨h.pk.keep h1 h2,h.holds,h.few⟩
theorem Full.far (h:Full w g gs width n ws x) {p:Addr} (h1:g≠p.block) (h2:gs≠p.block) (u:Value):Full (w.setCell p u) g gs width n ws x:=h.keep (Below.heap_setCell w p u g h1) (Below.heap_setCell w p u gs h2)
theorem Lies.drewN_ {t:TypeId} {cs:List Value} (h:Lies w g t cs) (k:Nat):Lies (w.drewN k) g t cs:=h
theorem quiet_keep {f:FuncId} {args:Array Value} {m:Nat} {v:Value} (h:Calls Tryz.prog f args (w.drewN m) fun e w'=>e=.returned v∧w.drewN m=w'):
    Calls Tryz.prog f args (w.drewN m) fun e w''=>e=.returned v∧∃j,w''=w.drewN j:=h.mono fun _ _ hh=>⟨hh.1,m,hh.2.symm⟩
theorem Full.get (h:Full w g gs width n ws x) (i:Nat) (hi:i < n):
    Calls Tryz.prog 107 #[.pointer (some ⟨g,0,none⟩),.int .i64 i] w fun e w'=>e=.returned (.int .u64 ((x i:Nat):Int))∧w=w':=by
 have c:=get_any h.pk h.holds.small h.holds.w1 h.holds.w64 h.few h.room i hi
 rw [h.holds.get hi] at c
 exact c
def SetFull (w:World) (g gs width n:Nat) (x:Nat→Nat) (i v:Nat) (e:Ending) (w':World):Prop:=
 e=.returned (.bool true)∧∃ws,Full w' g gs width n ws (fun k=>if k=i then v else x k)∧w.grownBy w' (some gs)
theorem Full.set_ (h:Full w g gs width n ws x) (i v:Nat) (hi:i < n) (hv:v < 2^width):
    Calls Tryz.prog 133 #[.pointer (some ⟨g,0,none⟩),.int .i64 i,.int .u64 v] w (SetFull w g gs width n x i v):=
 (set_any h.pk h.holds.small h.holds.w1 h.holds.w64 h.few h.room i v hi hv).mono fun _ _ ⟨he,hp,hg⟩=>⟨he,_,⟨hp,h.holds.set_ hi hv,h.few⟩,hg⟩
end
def NewFull (w:World) (width n:Nat) (e:Ending) (w':World):Prop:=
 ∃g gs:Nat,e=.returned (.tuple #[.pointer (some ⟨g,0,none⟩),.int .i64 0])∧w.heap.size≤g∧w.heap.size≤gs∧Below w.heap.size w w'∧∃ws,Full w' g gs width n ws (fun _=>0)
theorem new_full (width n:Nat) (h1:1≤width) (h64:width≤64) (hn:n≤4194304) (w:World):
    Calls Tryz.prog 132 #[.int .i64 width,.int .i64 n] w (NewFull w width n):=
 (new_any width n h1 h64 hn w).mono fun _ _ ⟨g,gs,he,hg,hgs,hp,hb⟩=>⟨g,gs,he,hg,hgs,hb,_,hp,Pl.holds_new width n h1 h64,hn⟩
end Go.Proofs.YtcidobpbepeakaaGreat

namespace Go.Proofs.YtcidobpbepeakaaGreat
open Go.RowKit
structure Bits (ws:List Nat) (n:Nat) (f:Nat→Bool):Prop where
 few:n≤4194304
 len:ws.length=(n+63) / 64
 small:Pl.Small ws
 same:∀i,i < n→Pl.bitAt ws i=f i
 behind:∀i,n≤i→Pl.bitAt ws i=false
structure Vc (w:World) (B g gw:Nat) (av:Value) (n:Nat) (ws:List Nat) (f:Nat→Bool):Prop where
 head:Lies w g 191 [.int .i64 (n:Int),.int .i64 ((Pl.cnt f n:Nat):Int),.slice (some ⟨gw,0,none⟩) ws.length ws.length,av]
 body:Lies w gw 136 (wcells ws)
 row:∀k,8*k < ws.length→∃ga c:Nat,av=.slice (some ⟨ga,0,none⟩) ((ws.length+7) / 8) c∧B≤ga∧ga < w.heap.size∧w.cell? ⟨ga,k,none⟩=some (.int .i64 ((Pl.cnt f (512*k):Nat):Int))
 bits:Bits ws n f
 lo:B≤g∧B≤gw
section
variable {w w':World} {B g gw n:Nat} {av:Value} {ws:List Nat} {f:Nat→Bool}
theorem Vc.keep (h:Vc w B g gw av n ws f) (hb:Below w.heap.size w w'):Vc w' B g gw av n ws f:=
 ⟨h.head.below hb h.head.lt,h.body.below hb h.body.lt,fun k hk=>by
   obtain ⟨ga,c,e,h1,h2,h3⟩:=h.row k hk
   exact ⟨ga,c,e,h1,Nat.lt_of_lt_of_le h2 hb.size,(hb.cell (p:=⟨ga,k,none⟩) h2).trans h3⟩,h.bits,h.lo⟩
theorem cell_of_heap {w w':World} {g k:Nat} (e:w'.heap[g]?=w.heap[g]?):w'.cell? ⟨g,k,none⟩=w.cell? ⟨g,k,none⟩:=by
 simp only [World.cell?, e]
theorem Vc.keepB (h:Vc w B g gw av n ws f) (hs:w.heap.size≤w'.heap.size) (hb:∀k,B≤k→k < w.heap.size→w'.heap[k]?=w.heap[k]?):Vc w' B g gw av n ws f:=
 ⟨h.head.same (hb g h.lo.1 h.head.lt),h.body.same (hb gw h.lo.2 h.body.lt),fun k hk=>by
   obtain ⟨ga,c,e,h1,h2,h3⟩:=h.row k hk
   exact ⟨ga,c,e,h1,Nat.lt_of_lt_of_le h2 hs,(cell_of_heap (hb ga h1 h2)).trans h3⟩,h.bits,h.lo⟩
theorem Vc.drewN (h:Vc w B g gw av n ws f) (k:Nat):Vc (w.drewN k) B g gw av n ws f:=⟨h.head,h.body,h.row,h.bits,h.lo⟩
theorem Vc.c0 (h:Vc w B g gw av n ws f):w.cell? ⟨g,0,none⟩=some (.int .i64 (n:Int)):=h.head.cell 0
theorem Vc.c1 (h:Vc w B g gw av n ws f):w.cell? ⟨g,1,none⟩=some (.int .i64 ((Pl.cnt f n:Nat):Int)):=h.head.cell 1
theorem Vc.c2 (h:Vc w B g gw av n ws f):w.cell? ⟨g,2,none⟩=some (.slice (some ⟨gw,0,none⟩) ws.length ws.length):=h.head.cell 2
theorem Vc.c3 (h:Vc w B g gw av n ws f):w.cell? ⟨g,3,none⟩=some av:=h.head.cell 3
theorem Vc.word (h:Vc w B g gw av n ws f) (k:Nat) (hk:k < ws.length):w.cell? ⟨gw,k,none⟩=some (.int .u64 ((ws.getD k 0:Nat):Int)):=by
 rw [h.body.cell k];exact wcells_at ws k hk
theorem vlen_any (h:Vc w B g gw av n ws f):Calls Tryz.prog 99 #[.pointer (some ⟨g,0,none⟩)] w fun e w'=>e=.returned (.int .i64 (n:Int))∧w=w':=by
 have h1:=h.c0
 go_enter Tryz.func99,Tryz.ntmps99
 go_wp2
 go_ret
 exact ⟨rfl,rfl⟩
theorem vones_any (h:Vc w B g gw av n ws f):Calls Tryz.prog 100 #[.pointer (some ⟨g,0,none⟩)] w fun e w'=>e=.returned (.int .i64 ((Pl.cnt f n:Nat):Int))∧w=w':=by
 have h1:=h.c1
 go_enter Tryz.func100,Tryz.ntmps100
 go_wp2
 go_ret
 exact ⟨rfl,rfl⟩
theorem within_any (h:Vc w B g gw av n ws f) (i:Int):Calls Tryz.prog 159 #[.pointer (some ⟨g,0,none⟩),.int .i64 i] w fun e w'=>e=.returned (.int .i64 ((Pl.clamp n i:Nat):Int))∧w=w':=by
 have hc:=Lib.hid (show Pl.clamp n i=(max 0 (min i (n:Int))).toNat from rfl)
 by_cases h1:(n:Int) < i
 · by_cases h2:0 < n
   all_goals
    go_enter Tryz.func159,Tryz.ntmps159
    go_wp2_with (go_at_call 99;refine (vlen_any h).mono ?_;rintro e w' ⟨rfl,rfl⟩)
    go_ret
    exact ⟨ret_i64 (by rw [hc.out];omega),rfl⟩
 · by_cases h2:0 < i
   all_goals
    go_enter Tryz.func159,Tryz.ntmps159
    go_wp2_with (go_at_call 99;refine (vlen_any h).mono ?_;rintro e w' ⟨rfl,rfl⟩)
    go_ret
    exact ⟨ret_i64 (by rw [hc.out];omega),rfl⟩
theorem bit_test (x s:Nat) (hx:x < 2^64):(bits .and .u64 ((x:Int) / 2^s) 1==1)=x.testBit s:=by
 have h1:(1:Int)=((1:Nat):Int):=rfl
 rw [shr_u,h1,and_u (Pl.div_lt_64 hx) (by decide),Nat.and_one_is_mod,←Nat.shiftRight_eq_div_pow]
 have e:=Nat.testBit_zero (x >>> s)
 rw [Nat.testBit_shiftRight,Nat.add_zero] at e
 rw [e]
 rcases Nat.mod_two_eq_zero_or_one (x >>> s) with h | h <;> simp [h]
theorem at_in (h:Vc w B g gw av n ws f) (i:Nat) (hi:i < n):Calls Tryz.prog 110 #[.pointer (some ⟨g,0,none⟩),.int .i64 (i:Int)] w fun e w'=>e=.returned (.bool (f i))∧w=w':=by
 have hq:i / 64 < ws.length:=by rw [h.bits.len];omega
 have hf:=h.bits.few
 have h2:=h.c2
 have hw:=h.word (i / 64) hq
 have hs:=h.bits.same i hi
 have hx:=h.bits.small.at_ (i / 64)
 unfold Pl.bitAt at hs
 generalize ws.getD (i / 64) 0=x at hw hs hx
 have ht:=bit_test x (i%64) hx
 rw [hs] at ht
 have HT:=Lib.hid ht
 clear hs ht hx
 have hLen:=Lib.hid (vlen_any h)
 clear h
 go_enter Tryz.func110,Tryz.ntmps110
 go_wp2_with (go_at_call 99;refine hLen.out.mono ?_;rintro e w' ⟨rfl,rfl⟩)
 go_ret
 rw [HT.out]
 exact ⟨rfl,rfl⟩
end
end Go.Proofs.YtcidobpbepeakaaGreat
