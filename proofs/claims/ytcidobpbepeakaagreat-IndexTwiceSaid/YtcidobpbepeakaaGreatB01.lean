/- Texts of ours, joined: Law Plain Mem Make BytesOwn Crc ImgMath CntMath SpMath Ints IntPut TxtRef SecsArg Own2 SufMath LcpMath BwtMath DocMath WavMath SufTurn CrcFirst SufI. -/
import Derived.Test.YtcidobpbepeakaaGreatRows
import Derived.WalkKit
import Derived.ProofKit
import Derived.OpenShut
import Derived.WalkSpells
import Derived.WalkLawsBesides
import Derived.Lib.Hide
import Derived.Deep.QuietTactic
import Derived.BigQuiet
import Derived.BigRegion
import Derived.Laws.MakeOwn
import Derived.Laws.CopyOwn
import Derived.Laws.AppendOwnNone
import Derived.Laws.BytesArg
import Derived.RegionTactic
import Derived.Deep.RegionHeld3
import Derived.Deep.CutBlock
import Derived.Deep.DeepCutAuto
import Derived.Stop.BytesEq
import Derived.Laws.OwnMore
import Derived.Deep.Matrix
import Derived.SizedLaws
import Derived.Lib.SmallJoins
import Derived.Lib.SlBytesConst
set_option maxRecDepth 1000000
set_option maxHeartbeats 6400000
namespace Go.Proofs.YtcidobpbepeakaaGreat
open Go.ChangeShapes Go.WideShapes Go.ChangeAt Go.RowKit
theorem i64_in {a:Int} (h:(Lit.int .i64 a).wf=true): -9223372036854775808≤a∧a≤9223372036854775807:=by
 simp [Lit.wf,IntKind.min,IntKind.max,IntKind.bits,IntKind.signed] at h
 omega
theorem cell_in {w:World} {a:Addr} {v:Value} (h:w.cell? a=some v):a.block < w.heap.size:=by
 apply Nat.lt_of_not_le
 intro hge
 simp [World.cell?, Array.getElem?_eq_none hge] at h
theorem add_block (a:Addr) (j:Nat):(a.add j).block=a.block:=by unfold Addr.add;split <;> rfl
section
variable {H:Type} {enc:TypeId×Value→H}
end
section
variable {H:Type} {enc:TypeId×Value→H}
theorem law_args (hl:laidOutB Tryz.prog=true) {W W':World} (hb:Below W.heap.size W W') (sp:Nat→Bool):∀(ts:List TypeId) (vs:List Value) (ds:List (DataW H)) (ps:List MemPlace),
    (∀t∈ts,Tryz.prog.readableRec t=true∧t < Tryz.prog.types.size)→DataW.TrodAll enc Tryz.prog W 0 (fun _=>true) true ts vs ds ps→(∀x∈ps,x.block < W.heap.size)→(∀x∈ps,sp x.block=true)→
    DataW.TrodAll enc Tryz.prog W' 0 sp true ts vs ds ps
 | [],vs,ds,ps,_,h,_,_=>by
   obtain ⟨rfl,rfl,rfl⟩:=trodAll_nil h
   exact trodAll_mk0
 | t::ts,vs,ds,ps,hts,h,hlt,hsp=>by
   obtain ⟨v,vs,d,ds,p,q,rfl,rfl,rfl,h0,hrest⟩:=trodAll_cons h
   obtain ⟨hr,hn⟩:=hts t (List.mem_cons_self ..)
   exact trodAll_cons_mk (WideElems.Trod_stays hl hr hn h0 (fun x hx=>hb.same (hlt x (by simp [hx]))) (fun x hx=>hsp x (by simp [hx])))
    (law_args hl hb sp ts vs ds q (fun t ht=>hts t (List.mem_cons_of_mem _ ht)) hrest (fun x hx=>hlt x (by simp [hx])) (fun x hx=>hsp x (by simp [hx])))
theorem law_post {f:Func} {s:ChangeSpec} {fresh handsOn again:Bool} {W W':World} {args:Array Value} {ds:List (DataW H)} {before:List MemPlace} (hl:laidOutB Tryz.prog=true)
    (hvars:s.vars=[]) (hres:f.resultTypes=#[4]) (hfn:s.fn H ds={ results:=[.lit (.bool true)],args:=ds }) (hts:∀t∈f.params.toList,Tryz.prog.readableRec t=true∧t < Tryz.prog.types.size)
    (hW:DataW.Whole enc Tryz.prog f.params.toList s.vars false W args.toList ds [] before) (hb:Below W.heap.size W W'):
    s.post enc Tryz.prog f false fresh handsOn again W args (.bool true) W':=by
 have hlt:∀p∈before,p.block < W.heap.size:=fun p hp=>hW.lt p hp
 have hfn':s.fn H (ds++[])={ results:=[.lit (.bool true)],args:=ds }:=by rw [List.append_nil];exact hfn
 have hW0:=hW
 obtain ⟨p,q,hA,hV,hpq,hz,_⟩:=hW
 rw [hvars] at hV
 obtain ⟨_,rfl⟩:=trodVars_none hV
 rw [List.append_nil] at hpq
 subst hpq
 have hargs:=fun sp hsp=>law_args hl hb sp f.params.toList args.toList ds before hts hA hlt hsp
 have hbool:∀(b:Nat) (sp:Nat→Bool) (hd:Bool),DataW.TrodAll enc Tryz.prog W' b sp hd f.resultTypes.toList ((Value.bool true).resultList f.resultTypes.size) [.lit (.bool true)] []:=fun b sp hd=>by
  rw [hres]
  exact trodAll_cons_mk (shut_bool Tryz.underlying4 _) trodAll_mk0
 refine ⟨ds,[],before,[],before,[],hW0,?_,?_,?_,World.keptBut_mono (fun x hx=>⟨hx,.inr (by simpa using hx)⟩) (hb.frame (·∈before)),fun _=>⟨?_,.lit (.bool true)::ds,[],before,⟨before,[],?_,?_,?_,?_,?_⟩,?_⟩⟩
 · rw [hfn']
   exact hbool _ _ _
 · rw [hfn']
   exact hargs _ (fun x hx=>by simpa using hlt x hx)
 · rw [hvars,hfn'];rfl
 · exact ok_one hres rfl (okWide_bool_mk Tryz.underlying4 _)
 · rw [hres]
   exact trodAll_cons_mk (shut_bool Tryz.underlying4 _) (hargs _ (fun _ _=>rfl))
 · rw [hvars];rfl
 · simp
 · intro b off hp
   rw [hb.frozen (hlt _ hp)]
   exact hz b off hp
 · intro h;cases h
 · intro p hp _;exact hp
end
end Go.Proofs.YtcidobpbepeakaaGreat

namespace Go.Proofs.YtcidobpbepeakaaGreat.Pl
def getN (ws:List Nat) (width i:Nat):Nat:=
 let q:=i*width / 64
 let r:=i*width%64
 (if 64 < r+width then ws.getD q 0 / 2^r ||| ws.getD (q+1) 0*2^(64 - r)%2^64 else ws.getD q 0 / 2^r) &&& (2^width - 1)
def mixN (x m v:Nat):Nat:=(x &&& (2^64 - 1 - m)) ||| v
def setN (ws:List Nat) (width i v:Nat):List Nat:=
 let q:=i*width / 64
 let r:=i*width%64
 let ws1:=ws.set q (mixN (ws.getD q 0) ((2^width - 1)*2^r%2^64) (v*2^r%2^64))
 if 64 < r+width then ws1.set (q+1) (mixN (ws.getD (q+1) 0) ((2^width - 1) / 2^(64 - r)) (v / 2^(64 - r))) else ws1
def bitAt (ws:List Nat) (b:Nat):Bool:=(ws.getD (b / 64) 0).testBit (b%64)
theorem tb_div (x s j:Nat):(x / 2^s).testBit j=x.testBit (s+j):=by
 rw [←Nat.shiftRight_eq_div_pow,Nat.testBit_shiftRight]
theorem tb_mul (x s j:Nat):(x*2^s).testBit j=(decide (s≤j)&&x.testBit (j - s)):=by
 rw [←Nat.shiftLeft_eq,Nat.testBit_shiftLeft]
theorem tb_ones (k j:Nat):(2^k - 1).testBit j=decide (j < k):=Nat.testBit_two_pow_sub_one k j
theorem tb_big {x j:Nat} (h:x < 2^64) (hj:64≤j):x.testBit j=false:=
 Nat.testBit_lt_two_pow (Nat.lt_of_lt_of_le h (Nat.pow_le_pow_right (by omega) hj))
def Small (ws:List Nat):Prop:=∀x∈ws,x < 2^64
theorem Small.at_ {ws:List Nat} (h:Small ws) (k:Nat):ws.getD k 0 < 2^64:=by
 rw [List.getD_eq_getElem?_getD]
 by_cases hk:k < ws.length
 · rw [List.getElem?_eq_getElem hk];exact h _ (List.getElem_mem hk)
 · rw [List.getElem?_eq_none (by omega)];decide
theorem Small.set_ {ws:List Nat} (h:Small ws) (k:Nat) {x:Nat} (hx:x < 2^64):Small (ws.set k x):=by
 intro y hy
 rcases List.mem_or_eq_of_mem_set hy with hy | rfl
 · exact h y hy
 · exact hx
theorem getN_testBit (ws:List Nat) (hs:Small ws) (width i j:Nat) (hw:width≤64):
    (getN ws width i).testBit j=(decide (j < width)&&bitAt ws (i*width+j)):=by
 unfold getN bitAt
 generalize i*width=b
 have hr:b%64 < 64:=Nat.mod_lt _ (by decide)
 simp only [Nat.testBit_and,tb_ones]
 by_cases hj:j < width
 · simp only [hj,decide_true,Bool.and_true,Bool.true_and]
   by_cases hc:b%64+j < 64
   · have e1:(b+j) / 64=b / 64:=by omega
     have e2:(b+j)%64=b%64+j:=by omega
     rw [e1,e2]
     split
     · rw [Nat.testBit_or,tb_div,Nat.testBit_mod_two_pow,tb_mul]
       have:¬64 - b%64≤j:=by omega
       simp [this]
     · rw [tb_div]
   · have e1:(b+j) / 64=b / 64+1:=by omega
     have e2:(b+j)%64=j - (64 - b%64):=by omega
     rw [e1,e2,if_pos (by omega),Nat.testBit_or,tb_div,Nat.testBit_mod_two_pow,tb_mul,tb_big (hs.at_ _) (by omega)]
     have h1:64 - b%64≤j:=by omega
     have h2:j < 64:=by omega
     simp [h1,h2]
 · simp [hj]
theorem mixN_testBit (x m v j:Nat) (hx:x < 2^64) (hm:m < 2^64):(mixN x m v).testBit j=((x.testBit j&&!m.testBit j) || v.testBit j):=by
 unfold mixN
 rw [Nat.testBit_or,Nat.testBit_and]
 congr 1
 by_cases hj:j < 64
 · have e:2^64 - 1 - m=2^64 - (m+1):=by omega
   rw [e,Nat.testBit_two_pow_sub_succ hm]
   simp [hj]
 · rw [tb_big hx (by omega)]
   simp
theorem mixN_lt (x m v:Nat) (hx:x < 2^64) (hv:v < 2^64):mixN x m v < 2^64:=
 Nat.or_lt_two_pow (Nat.lt_of_le_of_lt Nat.and_le_left hx) hv
theorem bitAt_set (ws:List Nat) (k x b:Nat) (hk:k < ws.length):bitAt (ws.set k x) b=if b / 64=k then x.testBit (b%64) else bitAt ws b:=by
 unfold bitAt
 simp only [List.getD_eq_getElem?_getD,List.getElem?_set]
 by_cases h:b / 64=k
 · rw [if_pos h,if_pos h.symm,if_pos hk]
   rfl
 · rw [if_neg h,if_neg (fun e=>h e.symm)]
theorem two_pow_le_64 {k:Nat} (h:k≤64):2^k≤2^64:=Nat.pow_le_pow_right (by omega) h
theorem div_lt_64 {v s:Nat} (h:v < 2^64):v / 2^s < 2^64:=Nat.lt_of_le_of_lt (Nat.div_le_self _ _) h
theorem setN_length (ws:List Nat) (width i v:Nat):(setN ws width i v).length=ws.length:=by
 unfold setN
 dsimp only
 split <;> simp
theorem setN_small (ws:List Nat) (hs:Small ws) (width i v:Nat) (hw:width≤64) (hv:v < 2^width):Small (setN ws width i v):=by
 have hv64:v < 2^64:=Nat.lt_of_lt_of_le hv (two_pow_le_64 hw)
 unfold setN
 dsimp only
 have h1:=hs.set_ (i*width / 64) (mixN_lt (ws.getD (i*width / 64) 0) ((2^width - 1)*2^(i*width%64)%2^64) (v*2^(i*width%64)%2^64) (hs.at_ _) (Nat.mod_lt _ (by decide)))
 split
 · exact h1.set_ _ (mixN_lt _ _ _ (hs.at_ _) (div_lt_64 hv64))
 · exact h1
theorem setN_bitAt (ws:List Nat) (hs:Small ws) (width i v b:Nat) (h0:1≤width) (hw:width≤64) (hv:v < 2^width) (hl:i*width+width≤64*ws.length):
    bitAt (setN ws width i v) b=if i*width≤b∧b < i*width+width then v.testBit (b - i*width) else bitAt ws b:=by
 have hv64:v < 2^64:=Nat.lt_of_lt_of_le hv (two_pow_le_64 hw)
 have hm64:2^width - 1 < 2^64:=by have:=two_pow_le_64 hw;have:=Nat.two_pow_pos width;omega
 unfold setN
 dsimp only
 generalize i*width=c at*
 have hq:c / 64 < ws.length:=by omega
 have hvj:∀j,width≤j→v.testBit j=false:=fun j hj=>Nat.testBit_lt_two_pow (Nat.lt_of_lt_of_le hv (Nat.pow_le_pow_right (by omega) hj))
 have hfirst:∀b,bitAt (ws.set (c / 64) (mixN (ws.getD (c / 64) 0) ((2^width - 1)*2^(c%64)%2^64) (v*2^(c%64)%2^64))) b=
     if c≤b∧b < c+width∧b / 64=c / 64 then v.testBit (b - c) else bitAt ws b:=by
  intro b
  rw [bitAt_set _ _ _ _ hq]
  by_cases hb:b / 64=c / 64
  · rw [if_pos hb,mixN_testBit _ _ _ _ (hs.at_ _) (Nat.mod_lt _ (by decide)),Nat.testBit_mod_two_pow,tb_mul,tb_ones,Nat.testBit_mod_two_pow,tb_mul]
    have h64:b%64 < 64:=Nat.mod_lt _ (by decide)
    simp only [h64,decide_true,Bool.true_and]
    by_cases hcb:c≤b
    · have e1:c%64≤b%64:=by omega
      have e2:b%64 - c%64=b - c:=by omega
      simp only [e1,e2,decide_true,Bool.true_and]
      by_cases hbw:b < c+width
      · have e3:b - c < width:=by omega
        simp only [e3,decide_true,Bool.not_true,Bool.and_false,Bool.false_or]
        rw [if_pos ⟨hcb,hbw,hb⟩]
      · have e3:¬b - c < width:=by omega
        rw [if_neg (fun h=>hbw h.2.1),hvj _ (by omega)]
        simp only [e3,decide_false,Bool.not_false,Bool.and_true,Bool.or_false]
        unfold bitAt;rw [hb]
    · have e1:¬c%64≤b%64:=by omega
      rw [if_neg (fun h=>hcb h.1)]
      simp only [e1,decide_false,Bool.false_and,Bool.not_false,Bool.and_true,Bool.or_false]
      unfold bitAt;rw [hb]
  · rw [if_neg hb,if_neg (fun h=>hb h.2.2)]
 split
 · rename_i hlong
   have hq1:c / 64+1 < ws.length:=by omega
   rw [bitAt_set _ _ _ _ (by rw [List.length_set];exact hq1)]
   by_cases hb:b / 64=c / 64+1
   · rw [if_pos hb,mixN_testBit _ _ _ _ (hs.at_ _) (div_lt_64 hm64),tb_div,tb_ones,tb_div]
     have e1:64 - c%64+b%64=b - c:=by omega
     rw [e1]
     by_cases hbw:b < c+width
     · have e3:b - c < width:=by omega
       rw [if_pos ⟨by omega,hbw⟩]
       simp [e3]
     · have e3:¬b - c < width:=by omega
       rw [if_neg (fun h=>hbw h.2),hvj _ (by omega)]
       simp only [e3,decide_false,Bool.not_false,Bool.and_true,Bool.or_false]
       unfold bitAt;rw [hb]
   · rw [if_neg hb,hfirst]
     by_cases hin:c≤b∧b < c+width
     · rw [if_pos hin,if_pos ⟨hin.1,hin.2,by omega⟩]
     · rw [if_neg hin,if_neg (fun h=>hin ⟨h.1,h.2.1⟩)]
 · rename_i hshort
   rw [hfirst]
   by_cases hin:c≤b∧b < c+width
   · rw [if_pos hin,if_pos ⟨hin.1,hin.2,by omega⟩]
   · rw [if_neg hin,if_neg (fun h=>hin ⟨h.1,h.2.1⟩)]
structure Holds (ws:List Nat) (width n:Nat) (x:Nat→Nat):Prop where
 w1:1≤width
 w64:width≤64
 len:ws.length=(n*width+63) / 64
 small:Small ws
 fits:∀i,i < n→x i < 2^width
 bits:∀i j,i < n→j < width→bitAt ws (i*width+j)=(x i).testBit j
 behind:∀b,n*width≤b→bitAt ws b=false
theorem mul_room {i n width:Nat} (h:i < n):i*width+width≤n*width:=by
 have:=Nat.mul_le_mul_right width (show i+1≤n from h)
 rw [Nat.add_mul,Nat.one_mul] at this
 exact this
theorem Holds.get {ws:List Nat} {width n:Nat} {x:Nat→Nat} (h:Holds ws width n x) {i:Nat} (hi:i < n):getN ws width i=x i:=by
 apply Nat.eq_of_testBit_eq
 intro j
 rw [getN_testBit ws h.small width i j h.w64]
 by_cases hj:j < width
 · simp only [hj,decide_true,Bool.true_and]
   exact h.bits i j hi hj
 · simp only [hj,decide_false,Bool.false_and]
   exact (Nat.testBit_lt_two_pow (Nat.lt_of_lt_of_le (h.fits i hi) (Nat.pow_le_pow_right (by omega) (by omega)))).symm
theorem other_number {i k width a:Nat} (hik:i≠k) (ha:a < width) (hb:k*width≤i*width+a) (hb':i*width+a < k*width+width):False:=by
 rcases Nat.lt_or_gt_of_ne hik with h | h
 · have:=mul_room (width:=width) h;omega
 · have:=mul_room (width:=width) h;omega
theorem Holds.set_ {ws:List Nat} {width n:Nat} {x:Nat→Nat} (h:Holds ws width n x) {i v:Nat} (hi:i < n) (hv:v < 2^width):
    Holds (setN ws width i v) width n (fun k=>if k=i then v else x k):=by
 have hroom:=mul_room (width:=width) hi
 have hl:i*width+width≤64*ws.length:=by rw [h.len];omega
 refine ⟨h.w1,h.w64,by rw [setN_length];exact h.len,setN_small ws h.small width i v h.w64 hv,?_,?_,?_⟩
 · intro k hk
   show (if k=i then v else x k) < 2^width
   split
   · exact hv
   · exact h.fits k hk
 · intro k j hk hj
   rw [setN_bitAt ws h.small width i v _ h.w1 h.w64 hv hl]
   show _=(if k=i then v else x k).testBit j
   by_cases e:k=i
   · subst e
     rw [if_pos ⟨by omega,by omega⟩,if_pos rfl]
     congr 1;omega
   · rw [if_neg e,if_neg]
     · exact h.bits k j hk hj
     · intro hh
       exact other_number (a:=j) e hj hh.1 hh.2
 · intro b hb
   rw [setN_bitAt ws h.small width i v _ h.w1 h.w64 hv hl,if_neg (by omega)]
   exact h.behind b hb
theorem small_zeros (k:Nat):Small (List.replicate k 0):=by
 intro x hx
 rw [List.eq_of_mem_replicate hx];decide
theorem bitAt_zeros (k b:Nat):bitAt (List.replicate k 0) b=false:=by
 unfold bitAt
 rw [List.getD_eq_getElem?_getD,List.getElem?_replicate]
 split <;> simp
theorem holds_new (width n:Nat) (h1:1≤width) (h64:width≤64):Holds (List.replicate ((n*width+63) / 64) 0) width n (fun _=>0):=
 ⟨h1,h64,by simp,small_zeros _,fun _ _=>Nat.two_pow_pos _,fun _ _ _ _=>by rw [bitAt_zeros];simp,fun _ _=>bitAt_zeros _ _⟩
end Go.Proofs.YtcidobpbepeakaaGreat.Pl

namespace Go.Proofs.YtcidobpbepeakaaGreat
open Go.RowKit
def Lies (w:World) (g:Nat) (t:TypeId) (cs:List Value):Prop:=w.heap[g]?=some (.cells cs.toArray t (0,0))
section
variable {w w':World} {g:Nat} {t:TypeId} {cs:List Value}
theorem Lies.lt (h:Lies w g t cs):g < w.heap.size:=by
 apply Nat.lt_of_not_le
 intro hge
 unfold Lies at h
 rw [Array.getElem?_eq_none hge] at h
 cases h
theorem Lies.cell (h:Lies w g t cs) (i:Nat):w.cell? ⟨g,i,none⟩=cs[i]?:=by
 rw [cell_of_row w g i cs.toArray t (0,0) h];simp
theorem Lies.free (h:Lies w g t cs) (i:Nat):w.frozen? ⟨g,i,none⟩=false:=by
 unfold Lies at h
 simp [World.frozen?, h]
theorem Lies.same (h:Lies w g t cs) (e:w'.heap[g]?=w.heap[g]?):Lies w' g t cs:=e.trans h
theorem Lies.below {B:Nat} (h:Lies w g t cs) (hb:Below B w w') (hg:g < B):Lies w' g t cs:=h.same (hb.block g hg)
theorem Lies.grown {row:Option Nat} (h:Lies w g t cs) (hb:w.grownBy w' row) (hg:some g≠row):Lies w' g t cs:=h.same (hb.block g h.lt hg)
theorem Lies.alloc (h:Lies w g t cs) (o:Obj):Lies (w.alloc o) g t cs:=h.same (Below.heap_alloc w o g h.lt)
theorem Lies.drew (h:Lies w g t cs):Lies w.drew g t cs:=h
theorem Lies.drewN (h:Lies w g t cs) (n:Nat):Lies (w.drewN n) g t cs:=h
theorem Lies.put (h:Lies w g t cs) (i:Nat) (u:Value):Lies (w.setCell ⟨g,i,none⟩ u) g t (cs.set i u):=by
 unfold Lies at h ⊢
 simp [World.setCell,Array.getElem?_modify,h]
theorem Lies.far (h:Lies w g t cs) {p:Addr} (hp:g≠p.block) (u:Value):Lies (w.setCell p u) g t cs:=h.same (Below.heap_setCell w p u g hp)
theorem Lies.unlike {g':Nat} {t':TypeId} {cs':List Value} (h:Lies w g t cs) (h':Lies w g' t' cs') (hne:t≠t'):g≠g':=by
 rintro rfl
 unfold Lies at h h'
 rw [h] at h'
 simp at h'
 exact hne h'.2
end
def wcells (ws:List Nat):List Value:=ws.map fun (x:Nat)=>Value.int .u64 (x:Int)
theorem wcells_at (ws:List Nat) (k:Nat) (h:k < ws.length):(wcells ws)[k]?=some (.int .u64 ((ws.getD k 0:Nat):Int)):=by
 unfold wcells
 rw [List.getElem?_map,List.getElem?_eq_getElem h,List.getD_eq_getElem?_getD,List.getElem?_eq_getElem h]
 rfl
theorem wcells_set (ws:List Nat) (k x:Nat):wcells (ws.set k x)=(wcells ws).set k (.int .u64 (x:Int)):=by
 unfold wcells;rw [List.map_set]
theorem wcells_length (ws:List Nat):(wcells ws).length=ws.length:=by unfold wcells;simp
structure Pk (w:World) (g gs:Nat) (width n:Nat) (ws:List Nat):Prop where
 head:Lies w g 198 [.int .i64 (width:Int),.int .i64 (n:Int),.slice (some ⟨gs,0,none⟩) ws.length ws.length]
 body:Lies w gs 136 (wcells ws)
section
variable {w w':World} {g gs width n:Nat} {ws:List Nat}
theorem Pk.ne_ (h:Pk w g gs width n ws):g≠gs:=h.head.unlike h.body (by decide)
theorem Pk.keep (h:Pk w g gs width n ws) (h1:w'.heap[g]?=w.heap[g]?) (h2:w'.heap[gs]?=w.heap[gs]?):Pk w' g gs width n ws:=⟨h.head.same h1,h.body.same h2⟩
theorem Pk.drew (h:Pk w g gs width n ws):Pk w.drew g gs width n ws:=⟨h.head,h.body⟩
theorem Pk.put (h:Pk w g gs width n ws) (q x:Nat):Pk (w.setCell ⟨gs,q,none⟩ (.int .u64 (x:Int))) g gs width n (ws.set q x):=by
 refine ⟨?_,?_⟩
 · rw [List.length_set];exact h.head.far h.ne_ _
 · rw [wcells_set];exact h.body.put q _
theorem Pk.c0 (h:Pk w g gs width n ws):w.cell? ⟨g,0,none⟩=some (.int .i64 (width:Int)):=h.head.cell 0
theorem Pk.c1 (h:Pk w g gs width n ws):w.cell? ⟨g,1,none⟩=some (.int .i64 (n:Int)):=h.head.cell 1
theorem Pk.c2 (h:Pk w g gs width n ws):w.cell? ⟨g,2,none⟩=some (.slice (some ⟨gs,0,none⟩) ws.length ws.length):=h.head.cell 2
theorem Pk.word (h:Pk w g gs width n ws) (k:Nat) (hk:k < ws.length):w.cell? ⟨gs,k,none⟩=some (.int .u64 ((ws.getD k 0:Nat):Int)):=by
 rw [h.body.cell k];exact wcells_at ws k hk
end
theorem grownBy_trans {a b c:World} {row:Option Nat} (h:a.grownBy b row) (k:b.grownBy c row):a.grownBy c row:=
 ⟨k.os.trans h.os,k.tape.trans h.tape,k.output.trans h.output,Nat.le_trans h.size k.size,fun i hi hne=>(k.block i (Nat.lt_of_lt_of_le hi h.size) hne).trans (h.block i hi hne)⟩
theorem grownBy_of_below {a w:World} (h:Below a.heap.size a w) (row:Option Nat):a.grownBy w row:=⟨h.os,h.tape,h.output,h.size,fun i hi _=>h.block i hi⟩
theorem below_of_grownBy {B:Nat} {a w:World} {g:Nat} (h:a.grownBy w (some g)) (hB:B≤g) (hs:B≤a.heap.size):Below B a w:=
 ⟨h.os,h.tape,h.output,h.size,fun i hi=>h.block i (by omega) (fun e=>by injection e with e;omega)⟩
theorem grownBy_drew {a w:World} {row:Option Nat} (h:a.grownBy w row):a.grownBy w.drew row:=⟨h.os,h.tape,h.output,h.size,h.block⟩
theorem grownBy_put {a w:World} {g:Nat} (h:a.grownBy w (some g)) (q:Nat) (u:Value):a.grownBy (w.setCell ⟨g,q,none⟩ u) (some g):=
 ⟨h.os,h.tape,h.output,by simpa [World.setCell] using h.size,fun i hi hne=>(Below.heap_setCell w ⟨g,q,none⟩ u i (fun e=>hne (by rw [e]))).trans (h.block i hi hne)⟩
theorem below_drewN' {B:Nat} {a w:World} (h:Below B a w) (n:Nat):Below B a (w.drewN n):=⟨h.os,h.tape,h.output,h.size,h.block⟩
end Go.Proofs.YtcidobpbepeakaaGreat

namespace Go.Proofs.YtcidobpbepeakaaGreat
open Go.RowKit
theorem ret_i64 {a b:Int} (h:a=b):Ending.returned (.int .i64 a)=.returned (.int .i64 b):=by rw [h]
theorem ret_u64 {a b:Int} (h:a=b):Ending.returned (.int .u64 a)=.returned (.int .u64 b):=by rw [h]
theorem ret2_i64 {a b c d:Int} (h:a=b) (k:c=d):Ending.returned (.tuple #[.int .i64 a,.int .i64 c])=.returned (.tuple #[.int .i64 b,.int .i64 d]):=by rw [h,k]
theorem wrap_u (x:Nat):IntKind.u64.wrap (x:Int)=((x%2^64:Nat):Int):=by
 rw [IntKind.wrap_u64];omega
theorem shl_u (x s:Nat):IntKind.u64.wrap ((x:Int)*2^s)=((x*2^s%2^64:Nat):Int):=by
 rw [←wrap_u]
 simp [Int.natCast_mul,Int.natCast_pow]
theorem shr_u (x s:Nat):(x:Int) / 2^s=((x / 2^s:Nat):Int):=by
 simp [Int.natCast_ediv,Int.natCast_pow]
theorem or_u {x y:Nat} (hx:x < 2^64) (hy:y < 2^64):bits .or .u64 (x:Int) (y:Int)=((x ||| y:Nat):Int):=u64_or_nat x y (by omega) (by omega)
theorem and_u {x y:Nat} (hx:x < 2^64) (hy:y < 2^64):bits .and .u64 (x:Int) (y:Int)=((x &&& y:Nat):Int):=u64_and_nat x y (by omega) (by omega)
theorem andNot_u {x y:Nat} (hx:x < 2^64) (hy:y < 2^64):bits .andNot .u64 (x:Int) (y:Int)=((x &&& (2^64 - 1 - y):Nat):Int):=u64_andNot_nat x y (by omega) (by omega)
theorem ones_num (k:Nat) (hk:k≤64):IntKind.u64.wrap (IntKind.u64.wrap (2^k) - 1)=((2^k - 1:Nat):Int):=by
 rw [IntKind.wrap_u64,IntKind.wrap_u64]
 have h1:=Nat.two_pow_pos k
 have h2:2^k≤2^64:=Nat.pow_le_pow_right (by omega) hk
 have e:(2:Int)^k=((2^k:Nat):Int):=by simp [Int.natCast_pow]
 rw [e]
 omega
theorem ones_any (k:Nat) (hk:k≤64) (w:World):
    Calls Tryz.prog 157 #[.int .i64 k] w fun e w'=>e=.returned (.int .u64 ((2^k - 1:Nat):Int))∧w=w':=by
 have HN:=Lib.hid (ones_num k hk)
 go_enter Tryz.func157,Tryz.ntmps157
 go_wp2
 go_ret
 exact ⟨ret_u64 HN.out,rfl⟩
theorem wordsOf_any (k:Nat) (hk:k≤268435456) (w:World):
    Calls Tryz.prog 178 #[.int .i64 k] w fun e w'=>e=.returned (.int .i64 ((k+63) / 64:Nat))∧w=w':=by
 go_enter Tryz.func178,Tryz.ntmps178
 go_wp2
 go_ret
 exact ⟨ret_i64 (by omega),rfl⟩
def rightB (width n:Int):Bool:=decide (1≤width∧width≤64∧0≤n∧n≤4194304)
theorem mayBe_any (width n:Int) (w:World):
    Calls Tryz.prog 177 #[.int .i64 width,.int .i64 n] w fun e w'=>e=.returned (.bool (rightB width n))∧w=w':=by
 unfold rightB
 by_cases h1:1≤width <;> by_cases h2:width≤64 <;> by_cases h3:0≤n <;> by_cases h4:n≤4194304
 all_goals
  go_enter Tryz.func177,Tryz.ntmps177
  go_wp2
  go_ret
  simp [h1,h2,h3,h4]
section
variable {w:World} {g gs width n:Nat} {ws:List Nat}
theorem has_yes (h:Pk w g gs width n ws) (i:Nat) (hi:i < n):
    Calls Tryz.prog 155 #[.pointer (some ⟨g,0,none⟩),.int .i64 i] w fun e w'=>e=.returned (.bool true)∧w=w':=by
 have h1:=h.c1
 clear h
 go_enter Tryz.func155,Tryz.ntmps155
 go_wp2
 go_ret
 simp
theorem place_any (h:Pk w g gs width n ws) (i q r:Nat) (hw:width≤64) (hi:i < 4194304) (hq:i*width / 64=q) (hr:i*width%64=r):
    Calls Tryz.prog 156 #[.pointer (some ⟨g,0,none⟩),.int .i64 i] w fun e w'=>e=.returned (.tuple #[.int .i64 q,.int .i64 r])∧w=w':=by
 have h1:=h.c0
 have hb:i*width≤4194304*64:=Nat.mul_le_mul (by omega) hw
 have hb1:0≤(i:Int)*(width:Int):=by rw [←Int.natCast_mul];omega
 have hb2:(i:Int)*(width:Int)≤268435456:=by rw [←Int.natCast_mul];omega
 have hq':(i:Int)*(width:Int) / 64=q:=by rw [←hq,←Int.natCast_mul];exact (Int.natCast_ediv _ _).symm
 have hr':(i:Int)*(width:Int)%64=r:=by rw [←hr,←Int.natCast_mul];exact (Int.natCast_emod _ _).symm
 have HQ:=Lib.hid hq'
 have HR:=Lib.hid hr'
 clear h hq hr hq' hr'
 go_enter Tryz.func156,Tryz.ntmps156
 go_wp2
 go_ret2
 exact ⟨ret2_i64 HQ.out HR.out,rfl⟩
theorem q_small {i width n q L:Nat} (hw:width≤64) (hi:i < n) (hn:n≤4194304) (hq:i*width / 64=q) (hL:n*width≤64*L) (h1:1≤width):q < 4194304∧q < L:=by
 have:=Pl.mul_room (width:=width) hi
 have hb:n*width≤4194304*64:=Nat.mul_le_mul hn hw
 omega
theorem q_next {i width n q r L:Nat} (hi:i < n) (hq:i*width / 64=q) (hr:i*width%64=r) (hL:n*width≤64*L) (hlong:64 < r+width):q+1 < L:=by
 have:=Pl.mul_room (width:=width) hi
 omega
theorem get_end {ws:List Nat} {width i q r x0 x1:Nat} (hs:Pl.Small ws) (hw:width≤64) (hq:i*width / 64=q) (hr:i*width%64=r) (h0:ws.getD q 0=x0) (h1:ws.getD (q+1) 0=x1) (hlong:64 < r+width):
    bits .and .u64 (bits .or .u64 ((x0:Int) / 2^r) (IntKind.u64.wrap ((x1:Int)*2^(64 - r)))) ((2^width - 1:Nat):Int)=((Pl.getN ws width i:Nat):Int):=by
 have b0:x0 < 2^64:=by rw [←h0];exact hs.at_ _
 have bw:2^width - 1 < 2^64:=by have:=Pl.two_pow_le_64 hw;have:=Nat.two_pow_pos width;omega
 have b1:x1*2^(64 - r)%2^64 < 2^64:=Nat.mod_lt _ (by decide)
 rw [shr_u,shl_u,or_u (Pl.div_lt_64 b0) b1,and_u (Nat.or_lt_two_pow (Pl.div_lt_64 b0) b1) bw]
 unfold Pl.getN
 simp only [hq,hr,h0,h1,hlong,if_true]
theorem get_end' {ws:List Nat} {width i q r x0:Nat} (hs:Pl.Small ws) (hw:width≤64) (hq:i*width / 64=q) (hr:i*width%64=r) (h0:ws.getD q 0=x0) (hshort:¬64 < r+width):
    bits .and .u64 ((x0:Int) / 2^r) ((2^width - 1:Nat):Int)=((Pl.getN ws width i:Nat):Int):=by
 have b0:x0 < 2^64:=by rw [←h0];exact hs.at_ _
 have bw:2^width - 1 < 2^64:=by have:=Pl.two_pow_le_64 hw;have:=Nat.two_pow_pos width;omega
 rw [shr_u,and_u (Pl.div_lt_64 b0) bw]
 unfold Pl.getN
 simp only [hq,hr,h0,hshort,if_false]
theorem get_any (h:Pk w g gs width n ws) (hs:Pl.Small ws) (h1:1≤width) (hw:width≤64) (hn:n≤4194304) (hL:n*width≤64*ws.length) (i:Nat) (hi:i < n):
    Calls Tryz.prog 107 #[.pointer (some ⟨g,0,none⟩),.int .i64 i] w fun e w'=>e=.returned (.int .u64 ((Pl.getN ws width i:Nat):Int))∧w=w':=by
 obtain ⟨q,hq⟩:∃q,i*width / 64=q:=⟨_,rfl⟩
 obtain ⟨r,hr⟩:∃r,i*width%64=r:=⟨_,rfl⟩
 have hr64:r < 64:=by rw [←hr];exact Nat.mod_lt _ (by decide)
 obtain ⟨hq1,hq2⟩:=q_small hw hi hn hq hL h1
 have h0:=h.c0
 have h2:=h.c2
 have hw0:=h.word q hq2
 generalize hx0:ws.getD q 0=x0 at hw0
 have HX:=Lib.hid hx0
 have HQ:=Lib.hid hq
 have HR:=Lib.hid hr
 have HP:=Lib.hid (place_any h i q r hw (by omega) hq hr)
 by_cases hlong:64 < r+width
 · have hq3:=q_next hi hq hr hL hlong
   have hw1:=h.word (q+1) hq3
   generalize hx1:ws.getD (q+1) 0=x1 at hw1
   have HX1:=Lib.hid hx1
   clear hx0 hx1 hq hr
   go_enter Tryz.func107,Tryz.ntmps107
   go_wp2_with (first
    | (go_at_call 155;refine (has_yes h i hi).mono ?_;rintro e w' ⟨rfl,rfl⟩)
    | (go_at_call 156;refine HP.out.mono ?_;rintro e w' ⟨rfl,rfl⟩)
    | (go_at_call 157;refine (ones_any width hw _).mono ?_;rintro e w' ⟨rfl,rfl⟩))
   go_ret
   exact ⟨ret_u64 (get_end hs hw HQ.out HR.out HX.out HX1.out hlong),rfl⟩
 · clear hx0 hq hr
   go_enter Tryz.func107,Tryz.ntmps107
   go_wp2_with (first
    | (go_at_call 155;refine (has_yes h i hi).mono ?_;rintro e w' ⟨rfl,rfl⟩)
    | (go_at_call 156;refine HP.out.mono ?_;rintro e w' ⟨rfl,rfl⟩)
    | (go_at_call 157;refine (ones_any width hw _).mono ?_;rintro e w' ⟨rfl,rfl⟩))
   go_ret
   exact ⟨ret_u64 (get_end' hs hw HQ.out HR.out HX.out hlong),rfl⟩
end
end Go.Proofs.YtcidobpbepeakaaGreat
namespace Go.Proofs.YtcidobpbepeakaaGreat
open Go.RowKit
theorem info_u64:(Tryz.prog.info? 136).map (fun i=>(i.zero,i.size,i.bytes))=some (some (.int .u64 0),1,8):=by kernel_rfl
theorem size_u64:(Tryz.prog.info? 136).map (·.size)=some 1:=by kernel_rfl
theorem zeros_cells (L:Nat):madeCells (Value.int .u64 0).cells (L*1)=(wcells (List.replicate L 0)).toArray:=by
 apply Array.ext'
 simp [madeCells,wcells,Value.cells,Array.toList_range]
 apply List.ext_getElem
 · simp
 · intro i h1 h2
   simp [Nat.mod_one]
theorem make_words (L:Nat) (hL:L≤4194304) (W:World):
    (Instr.makeSlice 188 (.int .i64 (L:Int)) (.int .i64 (L:Int))).run Tryz.prog W=.ok (.slice (some ⟨W.heap.size,0,none⟩) L L) (W.alloc (.cells (wcells (List.replicate L 0)).toArray 136)):=by
 obtain ⟨i,hi,hz,hs,hb⟩:=info_parts info_u64
 have h:=run_make (P:=Tryz.prog) W 188 136 i _ Tryz.underlying188 hi hz .i64 .i64 (L:Int) (L:Int) (by omega) (by omega) (by rw [hb];omega) (by omega)
 rw [h,hs]
 simp only [Int.toNat_natCast]
 rw [zeros_cells]
theorem wcells_one (ws:List Nat):∀v∈wcells ws,v.oneCell'=true:=by
 intro v hv
 unfold wcells at hv
 obtain ⟨x,_,rfl⟩:=List.mem_map.1 hv
 rfl
theorem size_alloc (w:World) (o:Obj):(w.alloc o).heap.size=w.heap.size+1:=by simp
theorem lies_new (w:World) (t:TypeId) (cs:List Value):Lies (w.alloc (.cells cs.toArray t)) w.heap.size t cs:=heap_alloc_new w _
def Src (w:World) (b:Nat) (ws:List Nat):Prop:=b < w.heap.size∧∀k,k < ws.length→w.cell? ⟨b,k,none⟩=some (.int .u64 ((ws.getD k 0:Nat):Int))
theorem Src.of_lies {w:World} {b:Nat} {ws:List Nat} (h:Lies w b 136 (wcells ws)):Src w b ws:=⟨h.lt,fun k hk=>by rw [h.cell k];exact wcells_at ws k hk⟩
theorem Src.keep {w w':World} {b:Nat} {ws:List Nat} (h:Src w b ws) (hb:Below w.heap.size w w'):Src w' b ws:=
 ⟨Nat.lt_of_lt_of_le h.1 hb.size,fun k hk=>(hb.cell (p:=⟨b,k,none⟩) h.1).trans (h.2 k hk)⟩
theorem Src.cells {w:World} {b:Nat} {ws:List Nat} (h:Src w b ws) (j:Nat) (v:Value) (hj:(wcells ws)[j]?=some v):w.cell? ((⟨b,0,none⟩:Addr).add j)=some v:=by
 have hl:j < ws.length:=by
  rw [←wcells_length]
  exact (List.getElem?_eq_some_iff.1 hj).1
 have e:(⟨b,0,none⟩:Addr).add j=⟨b,j,none⟩:=by unfold Addr.add;split <;> simp_all
 rw [e,h.2 j hl,←hj]
 exact (wcells_at ws j hl).symm
def CopyPost (w:World) (ws:List Nat) (e:Ending) (w':World):Prop:=
 ∃gs:Nat,e=.returned (.slice (some ⟨gs,0,none⟩) ws.length ws.length)∧w.heap.size≤gs∧Lies w' gs 136 (wcells ws)∧Below w.heap.size w w'
theorem copyOf_any (ws:List Nat) (b c:Nat) (w:World) (hL:ws.length≤4194304) (h:Src w b ws):
    Calls Tryz.prog 179 #[.slice (some ⟨b,0,none⟩) ws.length c] w (CopyPost w ws):=by
 obtain ⟨L,hLL⟩:∃L,ws.length=L:=⟨_,rfl⟩
 have HL:=Lib.hid hLL
 rw [hLL] at hL ⊢
 clear hLL
 have hmk:=make_words L hL
 obtain ⟨w2,hcp,hl2,hb2⟩:∃w2,(Builtin.copy_ #[188,188] 3 #[.slice (some ⟨w.heap.size,0,none⟩) L L,.slice (some ⟨b,0,none⟩) L c]).run Tryz.prog (w.alloc (.cells (wcells (List.replicate L 0)).toArray 136))=.ok (.int .i64 (L:Int)) w2∧Hid (Lies w2 w.heap.size 136 (wcells ws))∧Below w.heap.size w w2:=by
  have hsrc:=h.keep (w':=w.alloc (.cells (wcells (List.replicate L 0)).toArray 136)) ((Below.refl _ _).alloc (Nat.le_refl _) _)
  have hrun:=run_copy_row (P:=Tryz.prog) _ 188 188 3 136 w.heap.size 0 L L ⟨b,0,none⟩ L c (wcells (List.replicate L 0)).toArray 136 (wcells ws) Tryz.underlying188 size_u64
   (lies_new w 136 _) (by rw [wcells_length,HL.out];exact (Nat.min_self L).symm) hsrc.cells (by simp [wcells_length,HL.out]) (wcells_one ws)
  rw [wcells_length,HL.out] at hrun
  refine ⟨_,hrun,?_,?_⟩
  · have e:=setRow_heap (w.alloc (.cells (wcells (List.replicate L 0)).toArray 136)) w.heap.size (wcells (List.replicate L 0)).toArray (wcells ws).toArray 136 (0,0) (lies_new w 136 _)
    have e1:(List.take 0 (wcells (List.replicate L 0)).toArray.toList++wcells ws++List.drop (0+L) (wcells (List.replicate L 0)).toArray.toList)=wcells ws:=by
     simp [wcells_length]
    show Lies _ _ _ _
    unfold Lies
    rw [e1]
    exact e
  · exact below_setRow ((Below.refl _ _).alloc (Nat.le_refl _) _) (Nat.le_refl _) _
 go_enter Tryz.func179,Tryz.ntmps179
 go_wp2
 go_ret
 exact ⟨w.heap.size,by rw [HL.out];rfl,Nat.le_refl _,hl2.out,hb2⟩
def NewPost (w:World) (width n:Nat) (ws:List Nat) (e:Ending) (w':World):Prop:=
 ∃g gs:Nat,e=.returned (.tuple #[.pointer (some ⟨g,0,none⟩),.int .i64 0])∧w.heap.size≤g∧w.heap.size≤gs∧Pk w' g gs width n ws∧Below w.heap.size w w'
theorem new_any (width n:Nat) (h1:1≤width) (h64:width≤64) (hn:n≤4194304) (w:World):
    Calls Tryz.prog 132 #[.int .i64 width,.int .i64 n] w (NewPost w width n (List.replicate ((n*width+63) / 64) 0)):=by
 have hb:rightB width n=true:=by unfold rightB;simp;omega
 have hb0:width*n≤64*4194304:=Nat.mul_le_mul h64 hn
 have hb1:0≤(width:Int)*(n:Int):=by rw [←Int.natCast_mul];omega
 have hb2:(width:Int)*(n:Int)≤268435456:=by rw [←Int.natCast_mul];omega
 obtain ⟨L,hL⟩:∃L,(width*n+63) / 64=L:=⟨_,rfl⟩
 have HC:∀W,Hid (Calls Tryz.prog 178 #[.int .i64 ((width:Int)*(n:Int))] W fun e w'=>e=.returned (.int .i64 (L:Int))∧W=w'):=fun W=>by
  rw [←hL,←Int.natCast_mul];exact Lib.hid (wordsOf_any _ (by omega) W)
 have HL:=Lib.hid (show (n*width+63) / 64=L by rw [Nat.mul_comm];exact hL)
 have hL0:L≤4194304:=by omega
 clear hL
 have hmk:=make_words L hL0
 go_enter Tryz.func132,Tryz.ntmps132
 go_wp2_with (first
  | (go_at_call 177;refine (mayBe_any width n _).mono ?_;rintro e w' ⟨rfl,rfl⟩)
  | (go_at_call 178;refine (HC _).out.mono ?_;rintro e w' ⟨rfl,rfl⟩))
 go_ret2
 refine ⟨w.heap.size+1,w.heap.size,rfl,by omega,Nat.le_refl _,?_,?_⟩
 · rw [HL.out]
   refine ⟨?_,(lies_new w 136 _).alloc _⟩
   have e:=lies_new (w.alloc (.cells (wcells (List.replicate L 0)).toArray 136)) 198 [.int .i64 (width:Int),.int .i64 (n:Int),.slice (some ⟨w.heap.size,0,none⟩) L L]
   rw [size_alloc] at e
   rw [List.length_replicate]
   exact e
 · exact ((Below.refl _ _).alloc (Nat.le_refl _) _).alloc (by rw [size_alloc];omega) _
section
variable {w:World} {g gs width n:Nat} {ws:List Nat}
theorem len_any (h:Pk w g gs width n ws):
    Calls Tryz.prog 142 #[.pointer (some ⟨g,0,none⟩)] w fun e w'=>e=.returned (.int .i64 (n:Int))∧w=w':=by
 have h1:=h.c1
 go_enter Tryz.func142,Tryz.ntmps142
 go_wp2
 go_ret
 exact ⟨rfl,rfl⟩
theorem width_any (h:Pk w g gs width n ws):
    Calls Tryz.prog 141 #[.pointer (some ⟨g,0,none⟩)] w fun e w'=>e=.returned (.int .i64 (width:Int))∧w=w':=by
 have h1:=h.c0
 go_enter Tryz.func141,Tryz.ntmps141
 go_wp2
 go_ret
 exact ⟨rfl,rfl⟩
theorem words_any (h:Pk w g gs width n ws) (hL:ws.length≤4194304):
    Calls Tryz.prog 143 #[.pointer (some ⟨g,0,none⟩)] w (CopyPost w ws):=by
 have h1:=h.c2
 have HC:=Lib.hid (copyOf_any ws gs ws.length w hL (Src.of_lies h.body))
 go_enter Tryz.func143,Tryz.ntmps143
 go_wp2_with (go_at_call 179;refine HC.out.mono ?_;rintro e w' ⟨gn,rfl,hg1,hl1,hb1⟩)
 go_ret
 exact ⟨gn,rfl,hg1,hl1,hb1⟩
end
end Go.Proofs.YtcidobpbepeakaaGreat

namespace Go.Proofs.YtcidobpbepeakaaGreat
open Go.ChangeShapes Go.WideShapes Go.ChangeAt Go.RowKit
theorem u8_nat {a:Int} (h:(Lit.int .u8 a).wf=true):∃x:Nat,x < 256∧a=(x:Int):=by
 simp [Lit.wf,IntKind.min,IntKind.max,IntKind.bits,IntKind.signed] at h
 exact ⟨a.toNat,by omega,by omega⟩
def Bys (w:World) (B:Nat) (A:Option Addr) (n:Nat) (V:Nat→Nat):Prop:=
 ∀k,k < n→∃ad:Addr,A=some ad∧ad.block < B∧w.cell? (ad.add k)=some (.int .u8 ((V k:Nat):Int))∧V k < 256
theorem Bys.below {w w':World} {B:Nat} {A:Option Addr} {n:Nat} {V:Nat→Nat} (h:Bys w B A n V) (hb:Below B w w'):Bys w' B A n V:=fun k hk=>by
 obtain ⟨ad,e,h1,h2,h3⟩:=h k hk
 exact ⟨ad,e,h1,(hb.cell (by rw [add_block];exact h1)).trans h2,h3⟩
theorem Bys.mono_ {w:World} {B B':Nat} {A:Option Addr} {n:Nat} {V:Nat→Nat} (h:Bys w B A n V) (hB:B≤B'):Bys w B' A n V:=fun k hk=>by
 obtain ⟨ad,e,h1,h2,h3⟩:=h k hk
 exact ⟨ad,e,Nat.lt_of_lt_of_le h1 hB,h2,h3⟩
theorem cells_u8:Tryz.prog.cellsOf 5=1:=by kernel_rfl
section
variable {H:Type} {enc:TypeId×Value→H}
theorem open_bytes {W:World} {v:Value} {d:DataW H} {p:List MemPlace} {b:Nat} {r:Reach} (hv:Value.okWide Tryz.prog W r b 23 v) (h:DataW.Trod enc Tryz.prog W 0 (fun _=>true) true 23 v d p):
    ∃(A:Option Addr) (n c:Nat) (V:Nat→Nat),v=.slice A n c∧n≤maxLen∧(A=none→n=0∧c=0)∧Bys W W.heap.size A n V:=by
 obtain ⟨a0,len,cap,rfl⟩:=okWide_slice Tryz.underlying23 hv
 obtain ⟨fuel,hf⟩:=h
 rcases open_ints Tryz.underlying23 Tryz.underlying5 cells_u8 hf with ⟨hcs,_⟩ | ⟨a,n,c,zs,hcs,_,hl,hm,hz,_,hcell,hwz⟩
 · simp [Value.cells] at hcs
   obtain ⟨rfl,rfl,rfl⟩:=hcs
   exact ⟨none,0,0,fun _=>0,rfl,Nat.zero_le _,fun _=>⟨rfl,rfl⟩,fun k hk=>absurd hk (by omega)⟩
 · simp [Value.cells] at hcs
   obtain ⟨rfl,rfl,rfl⟩:=hcs
   have hnm:len≤zs.length:=by rw [hz];split <;> omega
   refine ⟨some a,len,cap,fun k=>(zs.getD k 0).toNat,rfl,Nat.le_trans hl hm,fun e=>(by cases e),fun k hk=>?_⟩
   have e0:=hcell k (by omega)
   have hlt:=cell_in e0
   rw [add_block] at hlt
   have hmem:zs.getD k 0∈zs:=by
    rw [List.getD_eq_getElem?_getD,List.getElem?_eq_getElem (by omega)]
    exact List.getElem_mem _
   obtain ⟨x,hx,hxz⟩:=u8_nat (hwz _ hmem)
   refine ⟨a,rfl,hlt,?_,?_⟩
   · show W.cell? (a.add k)=some (.int .u8 (((zs.getD k 0).toNat:Nat):Int))
     rw [e0,hxz,Int.toNat_natCast]
   · show (zs.getD k 0).toNat < 256
     rw [hxz]
     exact hx
end
end Go.Proofs.YtcidobpbepeakaaGreat
namespace Go.Proofs.YtcidobpbepeakaaGreat
open Go.RowKit
theorem info_u8:(Tryz.prog.info? 5).map (fun i=>(i.zero,i.size,i.bytes))=some (some (.int .u8 0),1,1):=by kernel_rfl
def ycells (V:Nat→Nat) (n:Nat):List Value:=(List.range n).map fun (j:Nat)=>Value.int .u8 ((V j:Nat):Int)
theorem ycells_length (V:Nat→Nat) (n:Nat):(ycells V n).length=n:=by unfold ycells;simp
theorem ycells_at (V:Nat→Nat) (n k:Nat) (h:k < n):(ycells V n)[k]?=some (.int .u8 ((V k:Nat):Int)):=by
 unfold ycells
 rw [List.getElem?_map,List.getElem?_range h]
 rfl
theorem ycells_one (V:Nat→Nat) (n:Nat):∀v∈ycells V n,v.oneCell'=true:=by
 intro v hv
 unfold ycells at hv
 obtain ⟨x,_,rfl⟩:=List.mem_map.1 hv
 rfl
theorem step_append_bytes {ops:Array Oper} {rest:List Oper} {o:Oper} {a:Act} {Q:Exit→Act→World→Prop} (hgd:o.guard=none) (s x:Operand)
    (ho:o.op=.call { callee:=.builtin .append,args:=#[s,x],argTypes:=#[23,23] })
    {w:World} {B:Nat} {v:Value} {i:Nat} {xs:List Value} (hs:a.eval s=v) (hown:w.ownsRow B 5 1 v i xs) {A:Option Addr} {n c:Nat} {V:Nat→Nat} (hx:a.eval x=.slice A n c) (hA:A=none→n=0∧c=0) {B':Nat} (hW:Bys w B' A n V)
    (hB:B≤w.heap.size) (hi:i+n≤4194304)
    (h:∀v' w',Hid (w'.ownsRow B 5 1 v' (i+n) (xs++ycells V n))→Below B w w'→wpList Tryz.prog ops Q rest (a.put o.dst v') w'):
    wpList Tryz.prog ops Q (o::rest) a w:=by
 obtain ⟨i0,hi0,hz0,hs0,hb0⟩:=info_parts info_u8
 rcases A with _ | ad
 · obtain ⟨rfl,rfl⟩:=hA rfl
   refine wpList_append_own_none hgd s x 23 ho B 5 i0 1 Tryz.underlying23 hi0 _ i xs hs hown hx ?_
   exact h v w (Lib.hid (by rw [show ycells V 0=[] from rfl,List.append_nil];exact hown)) (Below.refl _ _)
 · refine wpList_append_own _ hgd s x 23 ho B 5 i0 (.int .u8 0) 1 1 Tryz.underlying23 hi0 hz0 hs0 hb0 rfl (by decide) v i xs hs hown ad n c (ycells V n) hx
    (by rw [ycells_length];omega) (fun j u hj=>?_) (ycells_one V n) (by unfold maxLen;omega) (by omega) hB (fun v' w' h2 h3 _=>?_)
   · have hjn:j < n:=by
      have:=(List.getElem?_eq_some_iff.1 hj).1
      rw [ycells_length] at this
      exact this
     rw [ycells_at V n j hjn] at hj
     obtain ⟨ad',e,hb,hc,_⟩:=hW j hjn
     cases e
     rw [←hj,←hc]
   · exact h v' w' h2 ((Below.refl _ _).grown h3 hB (fun k hk=>(hown.lt k hk).1))
end Go.Proofs.YtcidobpbepeakaaGreat

namespace Go.Proofs.YtcidobpbepeakaaGreat
open Go.RowKit
def bstr (V:Nat→Nat) (n:Nat):ByteArray:=⟨((List.range n).map fun k=>UInt8.ofNat (V k)).toArray⟩
theorem bstr_size (V:Nat→Nat) (n:Nat):(bstr V n).size=n:=by simp [bstr,ByteArray.size]
theorem bstr_congr {V U:Nat→Nat} {n:Nat} (h:∀k,k < n→V k=U k):bstr V n=bstr U n:=by
 unfold bstr
 congr 2
 apply List.map_congr_left
 intro k hk
 rw [h k (List.mem_range.1 hk)]
theorem u8_same {x y:Nat} (hx:x < 256) (hy:y < 256) (h:UInt8.ofNat x=UInt8.ofNat y):x=y:=by
 have e:=congrArg UInt8.toNat h
 rw [UInt8.toNat_ofNat',UInt8.toNat_ofNat'] at e
 omega
theorem bstr_same {V U:Nat→Nat} {n m:Nat} (hV:∀k,k < n→V k < 256) (hU:∀k,k < m→U k < 256) (h:bstr V n=bstr U m):n=m∧∀k,k < n→V k=U k:=by
 have hs:=congrArg ByteArray.size h
 rw [bstr_size,bstr_size] at hs
 subst hs
 refine ⟨rfl,fun k hk=>?_⟩
 have hd:=congrArg (fun b:ByteArray=>b.data.toList[k]?) h
 simp only [bstr,List.getElem?_map,List.getElem?_range hk,Option.map_some,Option.some.injEq] at hd
 exact u8_same (hV k hk) (hU k hk) hd
theorem str_eq (a b:ByteArray):(a.toList==b.toList)=decide (a=b):=by
 rw [Bool.eq_iff_iff,beq_iff_eq,decide_eq_true_eq,ByteArray.toList_eq,ByteArray.toList_eq]
 exact ⟨fun h=>ByteArray.ext (Array.toList_inj.1 h),fun h=>by rw [h]⟩
theorem str_same {a b:ByteArray} (h:a=b):(a.toList==b.toList)=true:=by rw [str_eq];simpa using h
theorem str_unlike {a b:ByteArray} (h:a≠b):(a.toList==b.toList)=false:=by rw [str_eq];simpa using h
theorem conv_bytes (A:Option Addr) (n c:Nat) (V:Nat→Nat) (w:World) (h:∀k,k < n→∃ad:Addr,A=some ad∧w.cell? (ad.add k)=some (.int .u8 ((V k:Nat):Int))):
    (convert 23 9 (.slice A n c)).run Tryz.prog w=.ok (.string (bstr V n)) w:=by
 rw [run_convert_bytes_string w 23 9 5 A n c Tryz.underlying23 Tryz.underlying5 Tryz.underlying9]
 rcases A with _ | ad
 · have h0:n=0:=by
    apply Classical.byContradiction
    intro hne
    obtain ⟨_,e,_⟩:=h 0 (by omega)
    cases e
   subst h0
   simp [Conv.bytesToString]
   rfl
 · have hl:(loadCells ad n).run Tryz.prog w=.ok ((((List.range n).map fun k=>((V k:Nat):Int))).map (Value.int .u8)).toArray w:=by
    have:=run_loadCells_list (P:=Tryz.prog) w ad ((((List.range n).map fun k=>((V k:Nat):Int))).map (Value.int .u8)) (fun j v hj=>by
     have hjn:j < n:=by
      have:=(List.getElem?_eq_some_iff.1 hj).1
      simpa using this
     obtain ⟨ad',e,hc⟩:=h j hjn
     cases e
     rw [hc,←hj]
     simp [hjn])
    simpa using this
   rw [run_bytesToString w ad n c _ hl,foldl_push_bytes]
   congr 2
   simp [bstr,ByteArray.empty,ByteArray.emptyWithCapacity]
   show List.map _ _=_
   apply List.map_congr_left
   intro k _
   simp
theorem Bys.conv {w:World} {B:Nat} {A:Option Addr} {n:Nat} {V:Nat→Nat} (h:Bys w B A n V) (c:Nat):(convert 23 9 (.slice A n c)).run Tryz.prog w=.ok (.string (bstr V n)) w:=
 conv_bytes A n c V w fun k hk=>by
  obtain ⟨ad,e,_,hc,_⟩:=h k hk
  exact ⟨ad,e,hc⟩
end Go.Proofs.YtcidobpbepeakaaGreat
namespace Go.Proofs.YtcidobpbepeakaaGreat
open Go.RowKit
structure Part where
 A:Option Addr
 n:Nat
 c:Nat
 V:Nat→Nat
theorem ownsRow_keep {w w':World} {B n:Nat} {t:TypeId} {v:Value} {cs:List Value} (h:w.ownsRow B t 1 v n cs) (hb:Below w.heap.size w w'):w'.ownsRow B t 1 v n cs:=by
 refine h.kept (row:=none) ⟨hb.os,hb.tape,hb.output,hb.size,fun i hi _=>hb.block i hi⟩ ?_
 by_cases e:v.ownBlock=none
 · exact .inl e
 · exact .inr e
def ClonePost (w:World) (n:Nat) (V:Nat→Nat) (e:Ending) (w':World):Prop:=
 ∃v,e=.returned v∧w'.ownsRow w.heap.size 5 1 v n (ycells V n)∧Below w.heap.size w w'
theorem clone_any (ad:Addr) (n c:Nat) (V:Nat→Nat) (w:World) (hn:n≤1048576) (ho:Bys w w.heap.size (some ad) n V):
    Calls Tryz.prog 45 #[.slice (some ad) n c] w (ClonePost w n V):=by
 have HO:=Lib.hid ho
 have hnil:=fun W=>Lib.run_eql_slice_nil (P:=Tryz.prog) W 23 5 (some ad) n c 0 0 Tryz.underlying23
 have HW:=Lib.hid (World.ownsRow_made (base:=w.heap.size) (e:=5) (size:=1) w #[] 0 (Nat.le_refl _) (by unfold maxLen;omega) rfl)
 have hb0:Below w.heap.size w (w.alloc (.cells #[] 5)):=(Below.refl _ _).alloc (Nat.le_refl _) _
 clear ho
 go_enter Tryz.func45,Tryz.ntmps45
 go_wp2_with (at_builtin;refine step_append_bytes rfl (.tmp 5) (.tmp 6) rfl rfl HW.out rfl (fun e=>(by cases e)) (HO.out.below hb0) hb0.size (by omega) ?_;intro v1 w1 hown1 hb1)
 go_ret
 refine ⟨v1,rfl,?_,hb0.trans hb1⟩
 have h:=hown1.out
 rw [List.nil_append,Nat.zero_add] at h
 exact h
end Go.Proofs.YtcidobpbepeakaaGreat
namespace Go.Proofs.YtcidobpbepeakaaGreat
open Go.RowKit
theorem below_drew' {B:Nat} {a w:World} (h:Below B a w):Below B a w.drew:=⟨h.os,h.tape,h.output,h.size,h.block⟩
theorem ownsRow_lower {w:World} {B B' n:Nat} {t:TypeId} {v:Value} {cs:List Value} (h:w.ownsRow B t 1 v n cs) (hB:B'≤B):w.ownsRow B' t 1 v n cs:=by
 refine ⟨h.1,?_⟩
 rcases h.2 with h' | ⟨g,cap,cur,e,hb,rest⟩
 · exact .inl h'
 · exact .inr ⟨g,cap,cur,e,Nat.le_trans hB hb,rest⟩
end Go.Proofs.YtcidobpbepeakaaGreat

namespace Go.Proofs.YtcidobpbepeakaaGreat
open Go.RowKit
end Go.Proofs.YtcidobpbepeakaaGreat
namespace Go.Proofs.YtcidobpbepeakaaGreat
structure Sec where
 n:Nat
 V:Nat→Nat
section
variable {N:Nat} {U:Nat→Nat} {L:List Sec}
end
end Go.Proofs.YtcidobpbepeakaaGreat

namespace Go.Proofs.YtcidobpbepeakaaGreat.Pl
def cnt (f:Nat→Bool):Nat→Nat
 | 0=>0
 | n+1=>cnt f n+(if f n then 1 else 0)
theorem cnt_congr {f g:Nat→Bool}:∀ {n:Nat},(∀j,j < n→f j=g j)→cnt f n=cnt g n
 | 0,_=>rfl
 | n+1,h=>by
   unfold cnt
   rw [cnt_congr (fun j hj=>h j (by omega)),h n (by omega)]
theorem cnt_add (f:Nat→Bool) (a:Nat):∀b,cnt f (a+b)=cnt f a+cnt (fun j=>f (a+j)) b
 | 0=>by simp [cnt]
 | b+1=>by
   rw [←Nat.add_assoc]
   show cnt f (a+b)+(if f (a+b) then 1 else 0)=cnt f a+(cnt (fun j=>f (a+j)) b+(if f (a+b) then 1 else 0))
   rw [cnt_add f a b,Nat.add_assoc]
theorem cnt_zero {f:Nat→Bool}:∀ {n:Nat},(∀j,j < n→f j=false)→cnt f n=0
 | 0,_=>rfl
 | n+1,h=>by
   unfold cnt
   rw [cnt_zero (fun j hj=>h j (by omega)),h n (by omega)]
   simp
theorem cnt_le (f:Nat→Bool):∀n,cnt f n≤n
 | 0=>Nat.le_refl _
 | n+1=>by
   have:=cnt_le f n
   unfold cnt
   split <;> omega
def pop (v:Nat):Nat:=cnt v.testBit 64
theorem pop_le (v:Nat):pop v≤64:=cnt_le _ _
end Go.Proofs.YtcidobpbepeakaaGreat.Pl
namespace Go.Proofs.YtcidobpbepeakaaGreat.Pl
theorem cnt_succ (f:Nat→Bool) (n:Nat):cnt f (n+1)=cnt f n+(if f n then 1 else 0):=rfl
theorem cnt_mono (f:Nat→Bool) {a b:Nat} (h:a≤b):cnt f a≤cnt f b:=by
 obtain ⟨c,rfl⟩:=Nat.le.dest h
 rw [cnt_add]
 omega
theorem cnt_not (f:Nat→Bool):∀n,cnt f n+cnt (fun j=>!f j) n=n
 | 0=>rfl
 | n+1=>by
   have:=cnt_not f n
   rw [cnt_succ,cnt_succ]
   cases f n <;> simp <;> omega
theorem cnt_at_lt {f:Nat→Bool} {a b:Nat} (h:a < b) (ha:f a=true):cnt f a < cnt f b:=by
 have h1:=cnt_mono f (show a+1≤b from h)
 rw [cnt_succ,ha] at h1
 simp at h1
 omega
def sel (f:Nat→Bool):Nat→Int→Int
 | 0,_=> -1
 | n+1,k=>if f n=true∧((cnt f n:Nat):Int)=k then (n:Int) else sel f n k
theorem sel_out {f:Nat→Bool}:∀ {n:Nat} {k:Int},k < 0∨((cnt f n:Nat):Int)≤k→sel f n k= -1
 | 0,_,_=>rfl
 | n+1,k,h=>by
   have hs:=cnt_succ f n
   unfold sel
   rw [if_neg,sel_out]
   · rcases h with h | h
     · exact .inl h
     · right
       have:=cnt_mono f (Nat.le_succ n)
       omega
   · rintro ⟨h1,h2⟩
     rw [h1] at hs
     simp at hs
     omega
theorem sel_in {f:Nat→Bool}:∀ {n m:Nat},m < n→f m=true→sel f n (cnt f m)=m
 | 0,_,h,_=>by omega
 | n+1,m,h,hf=>by
   unfold sel
   by_cases e:m=n
   · subst e
     rw [if_pos ⟨hf,rfl⟩]
   · have h1:=cnt_at_lt (f:=f) (show m < n by omega) hf
     rw [if_neg (by rintro ⟨_,h2⟩;omega)]
     exact sel_in (by omega) hf
theorem sel_found {f:Nat→Bool} {n m k:Nat} (hm:m≤n) (hk:k < cnt f n) (h1:∀t,t < m→cnt f (t+1)≤k) (h2:∀t,m≤t→t < n→k < cnt f (t+1)):
    m < n∧f m=true∧cnt f m=k:=by
 have hlt:m < n:=by
  apply Nat.lt_of_not_le
  intro hge
  obtain rfl:m=n:=by omega
  cases m with
  | zero=>simp [cnt] at hk
  | succ m=>have:=h1 m (by omega);omega
 have ha:=h2 m (Nat.le_refl _) hlt
 have hb:cnt f m≤k:=by
  cases m with
  | zero=>simp [cnt]
  | succ m=>exact h1 m (by omega)
 rw [cnt_succ] at ha
 cases hf:f m with
 | false=>rw [hf] at ha;simp at ha;omega
 | true=>rw [hf] at ha;simp at ha;exact ⟨hlt,rfl,by omega⟩
theorem sel_found' {f:Nat→Bool} {n m k:Nat} (hm:m≤n) (hk:k < cnt f n) (h1:∀t,t < m→cnt f (t+1)≤k) (h2:∀t,m≤t→t < n→k < cnt f (t+1)):sel f n k=m:=by
 obtain ⟨a,b,c⟩:=sel_found hm hk h1 h2
 rw [←c]
 exact sel_in a b
theorem cnt_word (ws:List Nat) (q:Nat):cnt (bitAt ws) (64*(q+1))=cnt (bitAt ws) (64*q)+pop (ws.getD q 0):=by
 have e:64*(q+1)=64*q+64:=by omega
 rw [e,cnt_add]
 congr 1
 apply cnt_congr
 intro j hj
 unfold bitAt
 have e1:(64*q+j) / 64=q:=by omega
 have e2:(64*q+j)%64=j:=by omega
 rw [e1,e2]
theorem pop_mask (x r:Nat) (hr:r≤64):pop (x &&& (2^r - 1))=cnt x.testBit r:=by
 unfold pop
 have e:64=r+(64 - r):=by omega
 rw [e,cnt_add]
 have h1:cnt (x &&& (2^r - 1)).testBit r=cnt x.testBit r:=cnt_congr fun j hj=>by
  rw [Nat.testBit_and,tb_ones]
  simp [hj]
 have h2:cnt (fun j=>(x &&& (2^r - 1)).testBit (r+j)) (64 - r)=0:=cnt_zero fun j _=>by
  rw [Nat.testBit_and,tb_ones]
  have:¬r+j < r:=by omega
  simp [this]
 rw [h1,h2]
 rfl
theorem cnt_part (ws:List Nat) (q r:Nat) (hr:r < 64):cnt (bitAt ws) (64*q+r)=cnt (bitAt ws) (64*q)+pop (ws.getD q 0 &&& (2^r - 1)):=by
 rw [cnt_add,pop_mask _ r (by omega)]
 congr 1
 apply cnt_congr
 intro j hj
 unfold bitAt
 have e1:(64*q+j) / 64=q:=by omega
 have e2:(64*q+j)%64=j:=by omega
 rw [e1,e2]
def clamp (n:Nat) (i:Int):Nat:=(max 0 (min i (n:Int))).toNat
theorem clamp_le (n:Nat) (i:Int):clamp n i≤n:=by unfold clamp;omega
theorem clamp_int (n:Nat) (i:Int):max 0 (min i (n:Int))=((clamp n i:Nat):Int):=by unfold clamp;omega
theorem clamp_nat {n i:Nat} (h:i≤n):clamp n i=i:=by unfold clamp;omega
end Go.Proofs.YtcidobpbepeakaaGreat.Pl

namespace Go.Proofs.YtcidobpbepeakaaGreat.Pl
theorem cnt_all {g:Nat→Bool}:∀ {m:Nat},cnt g m=m→∀i,i < m→g i=true
 | 0,_,i,hi=>absurd hi (Nat.not_lt_zero _)
 | m+1,h,i,hi=>by
   have hl:=cnt_le g m
   rw [cnt_succ] at h
   have hm:g m=true:=by
    cases hg:g m with
    | true=>rfl
    | false=>rw [hg] at h;simp at h;omega
   rw [hm] at h
   simp at h
   by_cases e:i=m
   · rw [e];exact hm
   · exact cnt_all h i (by omega)
def hi (l:Nat→Nat) (P m:Nat):Nat→Bool:=fun b=>(List.range m).any fun i=>l i / P+i==b
section
variable {n m P:Nat} {l:Nat→Nat}
end
def blen:Nat→Nat
 | 0=>0
 | n+1=>blen ((n+1) / 2)+1
 decreasing_by omega
theorem blen_pos {n:Nat} (h:0 < n):blen n=blen (n / 2)+1:=by
 cases n with
 | zero=>omega
 | succ n=>rw [blen]
theorem blen_zero:blen 0=0:=by rw [blen]
theorem blen_log (n:Nat):0 < n→blen n=Nat.log2 n+1:=by
 induction n using Nat.strongRecOn with
 | ind n ih=>
   intro h
   rw [blen_pos h,Nat.log2_def]
   by_cases h2:n ≥ 2
   · rw [if_pos h2,ih (n / 2) (by omega) (by omega)]
   · rw [if_neg h2]
     have:n / 2=0:=by omega
     rw [this,blen_zero]
end Go.Proofs.YtcidobpbepeakaaGreat.Pl

namespace Go.Proofs.YtcidobpbepeakaaGreat
open Go.ChangeShapes Go.WideShapes Go.ChangeAt Go.RowKit
def Its (w:World) (B:Nat) (A:Option Addr) (n:Nat) (V:Nat→Int):Prop:=
 ∀k,k < n→∃ad:Addr,A=some ad∧ad.block < B∧w.cell? (ad.add k)=some (.int .i64 (V k))∧ -9223372036854775808≤V k∧V k≤9223372036854775807
theorem Its.below {w w':World} {B:Nat} {A:Option Addr} {n:Nat} {V:Nat→Int} (h:Its w B A n V) (hb:Below B w w'):Its w' B A n V:=fun k hk=>by
 obtain ⟨ad,e,h1,h2,h3⟩:=h k hk
 exact ⟨ad,e,h1,(hb.cell (by rw [add_block];exact h1)).trans h2,h3⟩
theorem Its.mono_ {w:World} {B B':Nat} {A:Option Addr} {n:Nat} {V:Nat→Int} (h:Its w B A n V) (hB:B≤B'):Its w B' A n V:=fun k hk=>by
 obtain ⟨ad,e,h1,h2,h3⟩:=h k hk
 exact ⟨ad,e,Nat.lt_of_lt_of_le h1 hB,h2,h3⟩
section
variable {H:Type} {enc:TypeId×Value→H}
end
end Go.Proofs.YtcidobpbepeakaaGreat

namespace Go.Proofs.YtcidobpbepeakaaGreat
open Go.RowKit
theorem info_i64:(Tryz.prog.info? 3).map (fun i=>(i.zero,i.size,i.bytes))=some (some (.int .i64 0),1,8):=by kernel_rfl
def icells (V:Nat→Int) (n:Nat):List Value:=(List.range n).map fun t=>Value.int .i64 (V t)
theorem icells_length (V:Nat→Int) (n:Nat):(icells V n).length=n:=by unfold icells;simp
theorem icells_snoc (V:Nat→Int) (n:Nat):icells V (n+1)=icells V n++[.int .i64 (V n)]:=by
 unfold icells
 rw [List.range_succ]
 simp
theorem icells_at (V:Nat→Int) (n k:Nat) (h:k < n):(icells V n)[k]?=some (.int .i64 (V k)):=by
 unfold icells
 rw [List.getElem?_map,List.getElem?_range h]
 rfl
theorem icells_one (V:Nat→Int) (n:Nat):∀v∈icells V n,v.oneCell'=true:=by
 intro v hv
 unfold icells at hv
 obtain ⟨x,_,rfl⟩:=List.mem_map.1 hv
 rfl
theorem Its.of_own {w:World} {B n:Nat} {v:Value} {V:Nat→Int} (h:w.ownsRow B 3 1 v n (icells V n)) (hV:∀i,i < n→ -9223372036854775808≤V i∧V i≤9223372036854775807):∃A c,v=.slice A n c∧Its w w.heap.size A n V:=by
 have hlt:=h.lt
 rcases h.2 with ⟨rfl,rfl⟩ | ⟨g,cap,cur,rfl,hg,hh,_⟩
 · exact ⟨none,0,rfl,fun k hk=>absurd hk (by omega)⟩
 · refine ⟨some ⟨g,0,none⟩,cap,rfl,fun k hk=>⟨⟨g,0,none⟩,rfl,(hlt g rfl).2,?_,hV k hk⟩⟩
   have e:(⟨g,0,none⟩:Addr).add k=⟨g,k,none⟩:=by unfold Addr.add;split <;> simp_all
   rw [e,h.cellAt k (by omega),icells_at _ _ k hk]
theorem step_append_int {ops:Array Oper} {rest:List Oper} {o:Oper} {a:Act} {Q:Exit→Act→World→Prop} (hgd:o.guard=none) (s x:Operand)
    (ho:o.op=.call { callee:=.builtin .append,args:=#[s,x],argTypes:=#[34,34] })
    {w:World} {B:Nat} {v:Value} {i:Nat} {xs:List Value} (hs:a.eval s=v) (hown:w.ownsRow B 3 1 v i xs) (y:Int) (hx:a.eval x=.slice (some ⟨w.heap.size,0,none⟩) 1 1) (hB:B≤w.heap.size) (hi:i≤4194304)
    (h:∀v' w',Hid (w'.ownsRow B 3 1 v' (i+1) (xs++[.int .i64 y]))→Below B w w'→wpList Tryz.prog ops Q rest (a.put o.dst v') w'):
    wpList Tryz.prog ops Q (o::rest) a (w.alloc (.cells #[.int .i64 y] 3)):=by
 obtain ⟨i0,hi0,hz0,hs0,hb0⟩:=info_parts info_i64
 have hl:=lies_new w 3 [.int .i64 y]
 refine wpList_append_own _ hgd s x 34 ho B 3 i0 (.int .i64 0) 1 8 Tryz.underlying34 hi0 hz0 hs0 hb0 rfl (by decide) v i xs hs (hown.alloc _) ⟨w.heap.size,0,none⟩ 1 1 [.int .i64 y] hx rfl (fun j u hj=>by
     cases j with
     | zero=>simp at hj;subst hj;exact hl.cell 0
     | succ j=>simp at hj) (fun u hu=>by simp at hu;subst hu;rfl) (by unfold maxLen;omega) (by omega) (by rw [size_alloc];omega) (fun v' w' h2 h3 _=>?_)
 exact h v' w' h2 (((Below.refl _ _).alloc hB _).grown h3 (by rw [size_alloc];omega) (fun k hk=>(hown.lt k hk).1))
end Go.Proofs.YtcidobpbepeakaaGreat
namespace Go.Proofs.YtcidobpbepeakaaGreat
open Go.RowKit
theorem icells_congr {U U':Nat→Int} {n:Nat} (h:∀j,j < n→U j=U' j):icells U n=icells U' n:=by
 unfold icells
 refine List.map_congr_left fun j hj=>?_
 rw [h j (List.mem_range.1 hj)]
theorem icells_put (U:Nat→Int) (n j:Nat) (x:Int):(icells U n).set j (.int .i64 x)=icells (fun i=>if i=j then x else U i) n:=by
 apply List.ext_getElem?
 intro i
 rw [List.getElem?_set]
 by_cases hi:i < n
 · rw [icells_at _ _ _ hi]
   split
   · rename_i e
     subst e
     rw [if_pos (by rw [icells_length];exact hi),icells_at _ _ _ hi,if_pos rfl]
   · rename_i e
     rw [icells_at _ _ _ hi,if_neg (fun e'=>e e'.symm)]
 · rw [List.getElem?_eq_none (by rw [icells_length];omega)]
   split
   · rename_i e
     rw [if_neg (by rw [icells_length];omega),List.getElem?_eq_none (by rw [icells_length];omega)]
   · rw [List.getElem?_eq_none (by rw [icells_length];omega)]
theorem owns_put {w:World} {B n c g:Nat} {t:TypeId} {cs:List Value} (h:w.ownsRow B t 1 (.slice (some ⟨g,0,none⟩) n c) n cs) (j:Nat) (u:Value):(w.setCell ⟨g,j,none⟩ u).ownsRow B t 1 (.slice (some ⟨g,0,none⟩) n c) n (cs.set j u):=by
 refine ⟨by rw [List.length_set];exact h.1,?_⟩
 rcases h.2 with ⟨e,_⟩ | ⟨g',cap,cur,e,h1,h2,h3,h4,h5,h6⟩
 · cases e
 · cases e
   refine .inr ⟨g,c,cur.setIfInBounds j u,rfl,h1,?_,h3,h4,by simp [h5],?_⟩
   · simp [World.setCell,Array.getElem?_modify,h2]
   · rw [←h6,Array.toList_setIfInBounds,List.take_set]
theorem owns_free {w:World} {B n c g:Nat} {t:TypeId} {cs:List Value} (h:w.ownsRow B t 1 (.slice (some ⟨g,0,none⟩) n c) n cs) (j:Nat):w.frozen? ⟨g,j,none⟩=false:=by
 rcases h.2 with ⟨e,_⟩ | ⟨g',cap,cur,e,h1,h2,_⟩
 · cases e
 · cases e
   simp [World.frozen?, h2]
theorem owns_far {w:World} {B n:Nat} {t:TypeId} {v:Value} {cs:List Value} (h:w.ownsRow B t 1 v n cs) {a:Addr} (ha:v.ownBlock≠some a.block) (u:Value):(w.setCell a u).ownsRow B t 1 v n cs:=by
 refine ⟨h.1,?_⟩
 rcases h.2 with h0 | ⟨g,cap,cur,e,h1,h2,h3⟩
 · exact .inl h0
 · subst e
   exact .inr ⟨g,cap,cur,rfl,h1,(Below.heap_setCell w a u g (fun e=>ha (by rw [←e];rfl))).trans h2,h3⟩
theorem owns_room {w:World} {B n c:Nat} {t:TypeId} {A:Option Addr} {cs:List Value} (h:w.ownsRow B t 1 (.slice A n c) n cs):n≤c∧c≤maxLen:=by
 rcases h.2 with ⟨e,_⟩ | ⟨g,cap,cur,e,_,_,h1,h2,_⟩
 · cases e
   exact ⟨Nat.le_refl _,Nat.zero_le _⟩
 · cases e
   exact ⟨h1,h2⟩
theorem owns_some {w:World} {B n:Nat} {t:TypeId} {v:Value} {cs:List Value} (h:w.ownsRow B t 1 v n cs) (hn:0 < n):∃g c,v=.slice (some ⟨g,0,none⟩) n c∧B≤g∧g < w.heap.size∧n≤c∧c≤maxLen:=by
 rcases h.2 with ⟨_,h0⟩ | ⟨g,cap,cur,e,h1,h2,h3,h4,_⟩
 · omega
 · exact ⟨g,cap,e,h1,(Array.getElem?_eq_some_iff.1 h2).1,h3,h4⟩
theorem owns_lies {w:World} {B g n:Nat} {t:TypeId} {cs:List Value} (h:Lies w g t cs) (hB:B≤g) (hn:cs.length=n) (hm:n≤maxLen):w.ownsRow B t 1 (.slice (some ⟨g,0,none⟩) n n) n cs:=
 ⟨by omega,.inr ⟨g,n,cs.toArray,rfl,hB,h,Nat.le_refl _,hm,by simp [hn],by simp [←hn]⟩⟩
theorem zero_ints (n:Nat):madeCells (Value.int .i64 0).cells (n*1)=(icells (fun _=>0) n).toArray:=by
 apply Array.ext'
 simp [madeCells,icells,Value.cells,Array.toList_range]
 intro i h1
 simp [Nat.mod_one]
theorem make_ints0 (w:World) (n:Nat) (hn:n≤4194304):(Instr.makeSlice 34 (.int .i64 (n:Int)) (.int .i64 (n:Int))).run Tryz.prog w=.ok (.slice (some ⟨w.heap.size,0,none⟩) n n) (w.alloc (.cells (icells (fun _=>0) n).toArray 3)):=by
 obtain ⟨i0,hi0,hz0,hs0,hb0⟩:=info_parts info_i64
 have h:=run_make (P:=Tryz.prog) w 34 3 i0 _ Tryz.underlying34 hi0 hz0 .i64 .i64 (n:Int) (n:Int) (by omega) (Int.le_refl _) (by rw [hb0];omega) (by omega)
 rw [hs0,Int.toNat_natCast,zero_ints] at h
 exact h
theorem step_append_list_far {ops:Array Oper} {rest:List Oper} {o:Oper} {a:Act} {Q:Exit→Act→World→Prop} (hgd:o.guard=none) (s x:Operand)
    (ho:o.op=.call { callee:=.builtin .append,args:=#[s,x],argTypes:=#[34,34] })
    {w:World} {A:Option Addr} {n c:Nat} {V:Nat→Int} (hs:a.eval s=.slice (some ⟨w.heap.size,0,none⟩) 0 0) (hx:a.eval x=.slice A n c) (hn:n*8≤140737488355328)
    (hA:A=none→n=0∧c=0) (hW:Its w w.heap.size A n V)
    (h:∀g c' w',Hid (w'.ownsRow w.heap.size 3 1 (.slice (some ⟨g,0,none⟩) n c') n (icells V n))→Below w.heap.size w w'→wpList Tryz.prog ops Q rest (a.put o.dst (.slice (some ⟨g,0,none⟩) n c')) w'):
    wpList Tryz.prog ops Q (o::rest) a (w.alloc (.cells #[] 3)):=by
 obtain ⟨i0,hi0,hz0,hs0,hb0⟩:=info_parts info_i64
 have hown:(w.alloc (.cells #[] 3)).ownsRow w.heap.size 3 1 (.slice (some ⟨w.heap.size,0,none⟩) 0 0) 0 []:=World.ownsRow_lit w #[] 0 (Nat.le_refl _) (Nat.zero_le _) rfl
 rcases A with _ | ad
 · obtain ⟨rfl,rfl⟩:=hA rfl
   refine wpList_append_own_none hgd s x 34 ho w.heap.size 3 i0 1 Tryz.underlying34 hi0 _ 0 [] hs hown hx ?_
   exact h w.heap.size 0 _ (World.ownsRow_lit w #[] 0 (Nat.le_refl _) (Nat.zero_le _) rfl) ((Below.refl _ _).alloc (Nat.le_refl _) _)
 · refine wpList_append_own _ hgd s x 34 ho w.heap.size 3 i0 (.int .i64 0) 1 8 Tryz.underlying34 hi0 hz0 hs0 hb0 rfl (by decide) _ 0 [] hs hown ad n c (icells V n) hx
    (by rw [icells_length];omega) (fun j u hj=>?_) (icells_one _ _) (by unfold maxLen;omega) (by omega) (by rw [size_alloc];omega) (fun v' w' h2 h3 h4=>?_)
   · have hjn:j < n:=by
      have:=(List.getElem?_eq_some_iff.1 hj).1
      rw [icells_length] at this
      exact this
     rw [icells_at _ _ _ hjn] at hj
     obtain ⟨ad',e,hb,hc,_⟩:=hW j hjn
     cases e
     rw [←hj,←hc]
     exact World.cell?_of_block (Below.heap_alloc w _ _ (by rw [add_block];exact hb))
   · rw [List.nil_append,Nat.zero_add] at h2
     have hbw:Below w.heap.size w w':=((Below.refl _ _).alloc (Nat.le_refl _) _).grown h3 (by rw [size_alloc];omega) (fun k hk=>by
      simp [Value.ownBlock] at hk
      omega)
     rcases h2.2 with ⟨rfl,_⟩ | ⟨g,cap,cur,rfl,hg,rest2⟩
     · exact absurd (h4.1 rfl).1 (by simp)
     · exact h g cap w' ⟨h2.1,.inr ⟨g,cap,cur,rfl,hg,rest2⟩⟩ hbw
theorem owns_slice {w:World} {B n:Nat} {t:TypeId} {v:Value} {cs:List Value} (h:w.ownsRow B t 1 v n cs):∃(A:Option Addr) (c:Nat),v=.slice A n c:=by
 have h1:=h.1
 rcases h.2 with ⟨e,h0⟩ | ⟨g,cap,cur,e,_⟩
 · exact ⟨none,0,by rw [e];congr 1;omega⟩
 · exact ⟨_,_,e⟩
end Go.Proofs.YtcidobpbepeakaaGreat

namespace Go.Proofs.YtcidobpbepeakaaGreat
open Go.RowKit
def Part.sec (p:Part):Sec:=⟨p.n,p.V⟩
def Secs (w:World) (B:Nat) (P:Option Addr) (L:List Part):Prop:=
 ∀(j:Nat) (p:Part),L[j]?=some p→∃ad:Addr,P=some ad∧ad.block < B∧w.cell? (ad.add j)=some (.slice p.A p.n p.c)∧p.n≤p.c∧p.c≤maxLen∧(p.A=none→p.n=0∧p.c=0)∧Bys w B p.A p.n p.V
theorem Secs.below {w w':World} {B:Nat} {P:Option Addr} {L:List Part} (h:Secs w B P L) (hb:Below B w w'):Secs w' B P L:=fun j p hj=>by
 obtain ⟨ad,h1,h2,h3,h4,h5,h6,h7⟩:=h j p hj
 exact ⟨ad,h1,h2,(hb.cell (by rw [add_block];exact h2)).trans h3,h4,h5,h6,h7.below hb⟩
theorem Secs.mono_ {w:World} {B B':Nat} {P:Option Addr} {L:List Part} (h:Secs w B P L) (hB:B≤B'):Secs w B' P L:=fun j p hj=>by
 obtain ⟨ad,h1,h2,h3,h4,h5,h6,h7⟩:=h j p hj
 exact ⟨ad,h1,by omega,h3,h4,h5,h6,h7.mono_ hB⟩
end Go.Proofs.YtcidobpbepeakaaGreat
namespace Go.Proofs.YtcidobpbepeakaaGreat
def docsP (L:List Part):List Sec:=L.map Part.sec
theorem docsP_length (L:List Part):(docsP L).length=L.length:=by unfold docsP;simp
theorem docsP_at {L:List Part} {i:Nat} {p:Part} (h:L[i]?=some p):(docsP L)[i]?=some p.sec:=by unfold docsP;rw [List.getElem?_map,h];rfl
def bytesT (S:List Sec):Nat:=(S.map Sec.n).sum
def offT (S:List Sec) (d:Nat):Nat:=((S.take d).map fun x=>x.n+1).sum
def lenT (S:List Sec):Nat:=offT S S.length
theorem offT_zero (S:List Sec):offT S 0=0:=rfl
theorem offT_succ {S:List Sec} {d:Nat} {x:Sec} (h:S[d]?=some x):offT S (d+1)=offT S d+(x.n+1):=by
 unfold offT
 rw [List.take_add_one,h]
 simp
theorem offT_cons (x:Sec) (S:List Sec) (d:Nat):offT (x::S) (d+1)=x.n+1+offT S d:=by
 unfold offT
 simp
theorem offT_mono {S:List Sec}:∀ {e d:Nat},d≤e→e≤S.length→offT S d≤offT S e
 | 0,d,h,_=>by
   obtain rfl:d=0:=by omega
   exact Nat.le_refl _
 | e+1,d,h,hl=>by
   by_cases hd:d=e+1
   · subst hd;exact Nat.le_refl _
   · obtain ⟨x,hx⟩:∃x,S[e]?=some x:=⟨_,List.getElem?_eq_getElem (by omega)⟩
     rw [offT_succ hx]
     have:=offT_mono (S:=S) (e:=e) (d:=d) (by omega) (by omega)
     omega
theorem offT_in {S:List Sec} {d:Nat} {x:Sec} (h:S[d]?=some x):offT S d+(x.n+1)≤lenT S:=by
 rw [←offT_succ h]
 exact offT_mono (by have:=(List.getElem?_eq_some_iff.1 h).1;omega) (Nat.le_refl _)
theorem lenT_is:∀S:List Sec,lenT S=bytesT S+S.length
 | []=>rfl
 | x::S=>by
   have h:=lenT_is S
   unfold lenT at h ⊢
   rw [List.length_cons,offT_cons,h]
   unfold bytesT
   simp
   omega
theorem bytesT_take {S:List Sec} {d:Nat} {x:Sec} (h:S[d]?=some x):bytesT (S.take (d+1))=bytesT (S.take d)+x.n:=by
 unfold bytesT
 rw [List.take_add_one,h]
 simp
theorem bytesT_le {S:List Sec}:∀(d:Nat),bytesT (S.take d)≤bytesT S:=fun d=>by
 have h:=List.take_append_drop d S
 have e:bytesT S=bytesT (S.take d)+bytesT (S.drop d):=by
  unfold bytesT
  rw [←List.sum_append,←List.map_append,h]
 omega
def locT:List Sec→Nat→Option (Nat×Nat)
 | [],_=>none
 | x::S,p=>if p≤x.n then some (0,p) else (locT S (p - (x.n+1))).map fun (d,o)=>(d+1,o)
theorem locT_at:∀ {S:List Sec} {d o:Nat} {x:Sec},S[d]?=some x→o≤x.n→locT S (offT S d+o)=some (d,o)
 | [],d,o,x,h,_=>by simp at h
 | y::S,0,o,x,h,ho=>by
   simp at h
   subst h
   rw [offT_zero,Nat.zero_add]
   unfold locT
   rw [if_pos ho]
 | y::S,d+1,o,x,h,ho=>by
   rw [offT_cons]
   unfold locT
   rw [if_neg (by omega),show y.n+1+offT S d+o - (y.n+1)=offT S d+o by omega,locT_at (S:=S) (by simpa using h) ho]
   rfl
theorem locT_some:∀ {S:List Sec} {p:Nat},p < lenT S→∃d o x,S[d]?=some x∧o≤x.n∧p=offT S d+o
 | [],p,h=>by simp [lenT,offT] at h
 | y::S,p,h=>by
   by_cases hp:p≤y.n
   · exact ⟨0,p,y,rfl,hp,by rw [offT_zero];omega⟩
   · unfold lenT at h
     rw [List.length_cons,offT_cons] at h
     obtain ⟨d,o,x,h1,h2,h3⟩:=locT_some (S:=S) (p:=p - (y.n+1)) (by unfold lenT;omega)
     exact ⟨d+1,o,x,by simpa using h1,h2,by rw [offT_cons];omega⟩
theorem locT_none:∀ {S:List Sec} {p:Nat},lenT S≤p→locT S p=none
 | [],_,_=>rfl
 | y::S,p,h=>by
   unfold lenT at h
   rw [List.length_cons,offT_cons] at h
   unfold locT
   rw [if_neg (by omega),locT_none (S:=S) (by unfold lenT;omega)]
   rfl
def symT (S:List Sec) (p:Nat):Nat:=match locT S p with
 | some (d,o)=>match S[d]? with
   | some x=>if o < x.n then S.length+x.V o else d
   | none=>0
 | none=>0
theorem sym_byte {S:List Sec} {d o:Nat} {x:Sec} (h:S[d]?=some x) (ho:o < x.n):symT S (offT S d+o)=S.length+x.V o:=by
 unfold symT
 rw [locT_at h (by omega)]
 dsimp only
 rw [h]
 dsimp only
 rw [if_pos ho]
theorem sym_end {S:List Sec} {d:Nat} {x:Sec} (h:S[d]?=some x):symT S (offT S d+x.n)=d:=by
 unfold symT
 rw [locT_at h (Nat.le_refl _)]
 dsimp only
 rw [h]
 dsimp only
 rw [if_neg (by omega)]
def docI (S:List Sec) (p:Int):Int×Int:=if p < 0 then (-1, -1) else match locT S p.toNat with
 | some (d,o)=>((d:Int),(o:Int))
 | none=>(-1, -1)
theorem sym_lt {S:List Sec} (hS:∀x∈S,∀k,k < x.n→x.V k < 256) {p:Nat} (hp:p < lenT S):symT S p < S.length+256:=by
 obtain ⟨d,o,x,h1,h2,rfl⟩:=locT_some hp
 have hd:=(List.getElem?_eq_some_iff.1 h1).1
 by_cases ho:o < x.n
 · rw [sym_byte h1 ho]
   have:=hS x (List.mem_of_getElem? h1) o ho
   omega
 · obtain rfl:o=x.n:=by omega
   rw [sym_end h1]
   omega
end Go.Proofs.YtcidobpbepeakaaGreat
namespace Go.Proofs.YtcidobpbepeakaaGreat
open Go.RowKit
theorem docs_len {L:List Part} {i:Nat} {p:Part} (h:L[i]?=some p):bytesT ((docsP L).take (i+1))=bytesT ((docsP L).take i)+p.n:=bytesT_take (docsP_at h)
theorem refSmall_any (P:Option Addr) (c:Nat) (L:List Part) (B bmax cmax:Nat) (w:World) (hL:L.length≤maxLen) (hbm:bmax≤4000000) (hcm:cmax≤4000000) (ho:Secs w B P L):
    Calls Tryz.prog 9 #[.slice P L.length c,.int .i64 (bmax:Int),.int .i64 (cmax:Int)] w fun e w'=>e=.returned (.bool (decide (L.length≤cmax∧bytesT (docsP L)≤bmax)))∧w=w':=by
 have HO:=Lib.hid ho
 clear ho
 obtain ⟨k,hk⟩:∃k,L.length=k:=⟨_,rfl⟩
 rw [hk] at hL ⊢
 have HK:=Lib.hid hk
 have hkl:k≤9223372036854775807:=by unfold maxLen at hL;omega
 obtain ⟨r,hr⟩:∃r,decide (k≤cmax∧bytesT (docsP L)≤bmax)=r:=⟨_,rfl⟩
 rw [hr]
 have HR:=Lib.hid hr
 clear hk hL hr
 by_cases h256:cmax < k
 · have hd:decide ((cmax:Int) < (k:Int))=true:=by simp;omega
   obtain rfl:r=false:=by rw [←HR.out];exact decide_eq_false (by omega)
   go_enter Tryz.func9,Tryz.ntmps9
   go_wp2_with fail
   go_ret
   exact ⟨rfl,rfl⟩
 · have hd:decide ((cmax:Int) < (k:Int))=false:=by simp;omega
   go_enter Tryz.func9,Tryz.ntmps9
   go_wp2_with fail
   go_loop [1,15] (fun s v=>∃i m:Nat,i≤k∧v=.int .i64 (i:Int)∧s=.int .i64 (m:Int)∧m≤bmax∧Hid (bytesT ((docsP L).take i)+m=bmax)) (fun _ v=>k - (intOf v).toNat)
   case atStart=>exact ⟨0,bmax,Nat.zero_le _,rfl,rfl,Nat.le_refl _,Lib.hid (by simp [bytesT])⟩
   case round=>
    obtain ⟨i,m,hi,rfl,rfl,hm,hsum⟩:=hrel
    by_cases hlt:i < k
    · obtain ⟨p,hp⟩:∃p,L[i]?=some p:=⟨_,List.getElem?_eq_getElem (by rw [HK.out];exact hlt)⟩
      obtain ⟨ad,rfl,hb,hc,hnc,hcm,_,_⟩:=HO.out i p hp
      have hpm:p.c≤9223372036854775807:=by unfold maxLen at hcm;omega
      have HN:=Lib.hid (docs_len hp)
      have HLe:=Lib.hid (bytesT_le (S:=docsP L) (i+1))
      clear hp hcm
      obtain ⟨A,z,cc,V⟩:=p
      have hlti:(i:Int) < (k:Int):=by omega
      have HN2:Hid (bytesT ((docsP L).take (i+1))=bytesT ((docsP L).take i)+z):=HN
      by_cases hz:m < z
      · have hd2:decide ((m:Int) < (z:Int))=true:=by simp;omega
        obtain rfl:r=false:=by
         rw [←HR.out]
         exact decide_eq_false (by
          have h1:=HN2.out
          have h2:=HLe.out
          have h3:=hsum.out
          omega)
        go_wp2_with fail
        go_ret
        exact ⟨rfl,rfl⟩
      · have hd2:decide ((m:Int) < (z:Int))=false:=by simp;omega
        have hw:IntKind.i64.wrap ((m:Int) - (z:Int))=((m - z:Nat):Int):=by rw [IntWalk.i64_in _ (by omega)];omega
        have HS:Hid (bytesT ((docsP L).take (i+1))+(m - z)=bmax):=Lib.hid (by
         have h1:=HN2.out
         have h3:=hsum.out
         omega)
        clear HN HN2 hsum
        go_wp2_with fail
        go_round
        case rel=>exact ⟨i+1,m - z,by omega,by go_num,rfl,by omega,HS⟩
        case measure=>simp [intOf];omega
    · obtain rfl:i=k:=by omega
      obtain rfl:r=true:=by
       rw [←HR.out]
       exact decide_eq_true ⟨by omega,by
        have h3:=hsum.out
        rw [List.take_of_length_le (by rw [docsP_length,HK.out];exact Nat.le_refl _)] at h3
        omega⟩
      go_wp2_with fail
      go_ret
      exact ⟨rfl,rfl⟩
theorem refSame8_any (A A':Option Addr) (n n' c c':Nat) (V V':Nat→Int) (B B':Nat) (w:World) (hn:n≤maxLen) (hB:B≤w.heap.size) (hB':B'≤w.heap.size) (ho:Its w B A n V) (ho':Its w B' A' n' V'):
    Calls Tryz.prog 15 #[.slice A n c,.slice A' n' c'] w fun e w'=>∃b,e=.returned (.bool b)∧(b=true↔(n=n'∧∀i,i < n→V i=V' i))∧Below w.heap.size w w':=by
 have HO:=Lib.hid (ho.mono_ hB)
 have HO':=Lib.hid (ho'.mono_ hB')
 have hkl:n≤9223372036854775807:=by unfold maxLen at hn;omega
 clear ho ho' hn
 by_cases hnn:n=n'
 · subst hnn
   go_enter Tryz.func15,Tryz.ntmps15
   go_wp2_with fail
   go_loopw [13] (fun v wr=>∃i:Nat,i≤n∧v=.int .i64 (i:Int)∧Hid (∀j,j < i→V j=V' j)∧Below w.heap.size w wr) (fun v _=>n - (intOf v).toNat)
   case atStart=>exact ⟨0,Nat.zero_le _,rfl,Lib.hid (fun j hj=>absurd hj (Nat.not_lt_zero j)),Below.refl _ _⟩
   case round=>
    obtain ⟨i,hi,rfl,hall,hb⟩:=hrel
    by_cases hlt:i < n
    · obtain ⟨ad,hA,h1,h2,_,_⟩:=HO.out i hlt
      obtain ⟨ad',hA',h1',h2',_,_⟩:=HO'.out i hlt
      subst hA hA'
      have q1:∀q,(wr.drewN q).cell? (ad.add i)=some (.int .i64 (V i)):=fun q=>((below_drewN' hb q).cell (by rw [add_block];exact h1)).trans h2
      have q2:∀q,(wr.drewN q).cell? (ad'.add i)=some (.int .i64 (V' i)):=fun q=>((below_drewN' hb q).cell (by rw [add_block];exact h1')).trans h2'
      have hlti:(i:Int) < (n:Int):=by omega
      clear h2 h2'
      by_cases he:V i=V' i
      · have HE:Hid (∀j,j < i+1→V j=V' j):=Lib.hid fun j hj=>by
         by_cases e:j < i
         · exact hall.out j e
         · obtain rfl:j=i:=by omega
           exact he
        rw [←he] at q2
        have hee:(V i==V i)=true:=by simp
        clear he
        go_wp2_with fail
        go_quiet (fail)
        go_wp2_with fail
        go_roundw
        case rel=>exact ⟨i+1,by omega,by go_num,HE,below_drewN' hb _⟩
        case measure=>simp [intOf];omega
      · have hne:(V i==V' i)=false:=by rw [beq_eq_false_iff_ne];exact he
        have HE:=Lib.hid he
        clear he
        go_wp2_with fail
        go_quiet (fail)
        go_wp2_with fail
        go_ret
        exact ⟨false,rfl,⟨fun h=>(by cases h),fun h=>absurd (h.2 i hlt) HE.out⟩,below_drewN' hb _⟩
    · obtain rfl:i=n:=by omega
      go_wp2_with fail
      go_ret
      exact ⟨true,rfl,⟨fun _=>⟨by trivial,hall.out⟩,fun _=>rfl⟩,hb⟩
 · have hd:((n:Int)==(n':Int))=false:=by rw [beq_eq_false_iff_ne];omega
   go_enter Tryz.func15,Tryz.ntmps15
   go_wp2_with fail
   go_ret
   exact ⟨false,rfl,⟨fun h=>(by cases h),fun h=>absurd h.1 hnn⟩,Below.refl _ _⟩
def symI (S:List Sec) (p:Nat):Int:=((symT S p:Nat):Int)
theorem refSymbols_any (P:Option Addr) (c:Nat) (L:List Part) (w:World) (hL:L.length≤4000) (hS:lenT (docsP L)≤4000000) (ho:Secs w w.heap.size P L):
    Calls Tryz.prog 22 #[.slice P L.length c] w fun e w'=>∃v,e=.returned v∧w'.ownsRow w.heap.size 3 1 v (lenT (docsP L)) (icells (symI (docsP L)) (lenT (docsP L)))∧Below w.heap.size w w':=by
 have HO:=Lib.hid ho
 clear ho
 obtain ⟨k,hk⟩:∃k,L.length=k:=⟨_,rfl⟩
 obtain ⟨N,hN⟩:∃N,lenT (docsP L)=N:=⟨_,rfl⟩
 rw [hk] at hL ⊢
 rw [hN] at hS ⊢
 have HK:=Lib.hid hk
 have HN:=Lib.hid hN
 clear hk hN
 go_enter Tryz.func22,Tryz.ntmps22
 go_wp2_with fail
 go_loopw [3,10] (fun o v wr=>∃i m:Nat,i≤k∧v=.int .i64 (i:Int)∧Hid (m=offT (docsP L) i)∧Hid (wr.ownsRow w.heap.size 3 1 o m (icells (symI (docsP L)) m))∧Below w.heap.size w wr) (fun _ v _=>k - (intOf v).toNat)
 case atStart=>exact ⟨0,0,Nat.zero_le _,rfl,Lib.hid rfl,Lib.hid (World.ownsRow_nil w _ _ _),Below.refl _ _⟩
 case round=>
  obtain ⟨i,m,hi,rfl,hm,hrow,hb⟩:=hrel
  by_cases hlt:i < k
  · obtain ⟨pt,hpt⟩:∃p,L[i]?=some p:=⟨_,List.getElem?_eq_getElem (by rw [HK.out];exact hlt)⟩
    obtain ⟨ad,rfl,hadb,hc,hnc,hcm,hAn,hby⟩:=(HO.out.below hb) i pt hpt
    have HPt:=Lib.hid (docsP_at hpt)
    have hfit:=offT_in (docsP_at hpt)
    rw [HN.out,←hm.out] at hfit
    have hfit:m+(pt.n+1)≤N:=hfit
    clear hpt hcm
    obtain ⟨A,z,cc,V⟩:=pt
    have hlti:(i:Int) < (k:Int):=by omega
    have HBy:Hid (Bys w w.heap.size A z V):=Lib.hid (by
     intro j hj
     obtain ⟨ad',e1,e2,e3,e4⟩:=hby j hj
     exact ⟨ad',e1,e2,(hb.cell (p:=ad'.add j) (by rw [add_block];exact e2)).symm.trans e3,e4⟩)
    clear hby
    go_wp2_with fail
    rename World=>wr0
    go_loopw [3,17] (fun o v wr=>∃j:Nat,j≤z∧v=.int .i64 (j:Int)∧Hid (wr.ownsRow w.heap.size 3 1 o (m+j) (icells (symI (docsP L)) (m+j)))∧Below w.heap.size w wr) (fun _ v _=>z - (intOf v).toNat)
    case atStart=>exact ⟨0,Nat.zero_le _,rfl,by rw [Nat.add_zero];exact hrow,hb⟩
    case round=>
     rename World=>wy
     obtain ⟨j,hj,rfl,hrw,hby⟩:=hrel
     have hys:=hby.size
     by_cases hjl:j < z
     · obtain ⟨ad2,rfl,a2,a3,a4⟩:=HBy.out j hjl
       have a5:=(hby.cell (p:=ad2.add j) (by rw [add_block];exact a2)).trans a3
       have hjz:(j:Int) < (z:Int):=by omega
       have hw1:IntKind.i64.wrap ((V j:Nat):Int)=((V j:Nat):Int):=IntWalk.i64_in _ (by omega)
       have hw2:IntKind.i64.wrap (((V j:Nat):Int)+(k:Int))=((V j:Nat):Int)+(k:Int):=IntWalk.i64_in _ (by omega)
       have HSy:Hid (symI (docsP L) (m+j)=((V j:Nat):Int)+(k:Int)):=Lib.hid (by
        unfold symI
        rw [hm.out,sym_byte HPt.out (show j < z from hjl),docsP_length,HK.out]
        show ((k+V j:Nat):Int)=_
        omega)
       clear a3
       go_wp2_with (at_builtin;refine step_append_int rfl (.tmp 21) (.tmp 27) rfl rfl hrw.out _ rfl hys (by omega) ?_;intro v3 w3 hown3 hb3)
       rw [←HSy.out,←icells_snoc] at hown3
       go_roundw
       case rel=>exact ⟨j+1,by omega,by go_num,hown3,hby.trans hb3⟩
       case measure=>simp [intOf];omega
     · obtain rfl:j=z:=by omega
       have HSy:Hid (symI (docsP L) (m+j)=(i:Int)):=Lib.hid (by
        have h2:symT (docsP L) (offT (docsP L) i+j)=i:=sym_end HPt.out
        unfold symI
        rw [hm.out,h2])
       have HM2:Hid (m+j+1=offT (docsP L) (i+1)):=Lib.hid (by
        rw [offT_succ HPt.out,←hm.out]
        show m+j+1=m+(j+1)
        omega)
       go_wp2_with (at_builtin;refine step_append_int rfl (.tmp 30) (.tmp 32) rfl rfl hrw.out _ rfl hys (by omega) ?_;intro v3 w3 hown3 hb3)
       rw [←HSy.out,←icells_snoc] at hown3
       go_roundw
       case rel=>exact ⟨i+1,m+j+1,by omega,by go_num,HM2,hown3,hby.trans hb3⟩
       case measure=>simp [intOf];omega
  · obtain rfl:i=k:=by omega
    have hmN:m=N:=by
     rw [hm.out,←HN.out]
     unfold lenT
     rw [docsP_length,HK.out]
    subst hmN
    go_wp2_with fail
    go_ret
    exact ⟨_,rfl,hrow.out,hb⟩
def docAt (S:List Sec) (V:Nat→Int) (i:Nat):Int:=(docI S (V i)).1
theorem docAt_room {S:List Sec} {p:Int}: -1≤(docI S p).1∧(docI S p).1≤(S.length:Int):=by
 unfold docI
 split
 · exact ⟨by omega,by show (-1:Int)≤_;omega⟩
 · split
   · rename_i d o h
     have:d≤S.length:=by
      have h2:∀(S:List Sec) (q d o:Nat),locT S q=some (d,o)→d≤S.length:=by
       intro S
       induction S with
       | nil=>intro q d o h;cases h
       | cons x S ih=>
         intro q d o h
         unfold locT at h
         split at h
         · cases h
           exact Nat.zero_le _
         · rcases e:locT S (q - (x.n+1)) with _ | ⟨d',o'⟩
           · rw [e] at h;cases h
           · rw [e] at h
             cases h
             have:=ih _ _ _ e
             show d'+1≤S.length+1
             omega
      exact h2 S _ d o h
     show (-1:Int)≤(d:Int)∧(d:Int)≤_
     omega
   · exact ⟨by omega,by show (-1:Int)≤_;omega⟩
end Go.Proofs.YtcidobpbepeakaaGreat

namespace Go.Proofs.YtcidobpbepeakaaGreat
open Go.ChangeShapes Go.WideShapes Go.ChangeAt Go.RowKit Go.Deep
section
variable {H:Type} {enc:TypeId×Value→H}
theorem cells_bytes:Tryz.prog.cellsOf 23=1:=by kernel_rfl
theorem open_secs {W:World} {v:Value} {d:DataW H} {p:List MemPlace} {b:Nat} {r:Reach} (hv:Value.okWide Tryz.prog W r b 22 v) (h:DataW.Trod enc Tryz.prog W 0 (fun _=>true) true 22 v d p):
    ∃(P:Option Addr) (c:Nat) (L:List Part),v=.slice P L.length c∧L.length≤c∧c≤maxLen∧(P=none→L=[]∧c=0)∧Secs W W.heap.size P L:=by
 obtain ⟨a0,len,cap,rfl⟩:=okWide_slice Tryz.underlying22 hv
 obtain ⟨fuel,hf⟩:=h
 rcases open_int_rows Tryz.underlying22 Tryz.underlying23 Tryz.underlying5 cells_bytes cells_u8 hf with ⟨hcs,_⟩ | ⟨a,n,c,A,Ln,C,Z,hcs,_,hl,hm,_,hrow⟩
 · simp [Value.cells] at hcs
   obtain ⟨rfl,rfl,rfl⟩:=hcs
   exact ⟨none,0,[],rfl,Nat.le_refl _,Nat.zero_le _,fun _=>⟨rfl,rfl⟩,fun j p hj=>by simp at hj⟩
 · simp [Value.cells] at hcs
   obtain ⟨rfl,rfl,rfl⟩:=hcs
   refine ⟨some a,cap,(List.range len).map fun i=>⟨A i,Ln i,C i,fun k=>((Z i).getD k 0).toNat⟩,by simp,by simpa using hl,hm,fun e=>(by cases e),fun j q hj=>?_⟩
   have hjn:j < len:=by
    have:=(List.getElem?_eq_some_iff.1 hj).1
    simpa using this
   rw [List.getElem?_map,List.getElem?_range hjn] at hj
   cases hj
   obtain ⟨h1,h2,h3,h4,h5,h6,h7⟩:=hrow j (by omega)
   have hlt:=cell_in h1
   rw [add_block] at hlt
   refine ⟨a,rfl,hlt,h1,h2,h3,fun e=>?_,fun k hk=>?_⟩
   · have e:A j=none:=e
     have:=h6 e
     exact ⟨by show Ln j=0;omega,this⟩
   · have hk:k < Ln j:=hk
     rcases hA:A j with _ | a'
     · have:=h6 hA
       omega
     · obtain ⟨_,h8⟩:=h7 a' hA
       have e0:=h8 k (by omega)
       have hlt2:=cell_in e0
       rw [add_block] at hlt2
       have hmem:(Z j).getD k 0∈Z j:=by
        rw [List.getD_eq_getElem?_getD,List.getElem?_eq_getElem (by omega)]
        exact List.getElem_mem _
       obtain ⟨x,hx,hxz⟩:=u8_nat (h5 _ hmem)
       refine ⟨a',hA,hlt2,?_,?_⟩
       · show W.cell? (a'.add k)=some (.int .u8 ((((Z j).getD k 0).toNat:Nat):Int))
         rw [e0,hxz,Int.toNat_natCast]
       · show ((Z j).getD k 0).toNat < 256
         rw [hxz]
         exact hx
end
end Go.Proofs.YtcidobpbepeakaaGreat

namespace Go.Proofs.YtcidobpbepeakaaGreat
open Go.RowKit
theorem owns_put2 {w:World} {B n c g:Nat} {t:TypeId} {cs:List Value} (h:w.ownsRow B t 2 (.slice (some ⟨g,0,none⟩) n c) n cs) (j:Nat) (u:Value):(w.setCell ⟨g,j,none⟩ u).ownsRow B t 2 (.slice (some ⟨g,0,none⟩) n c) n (cs.set j u):=by
 refine ⟨by rw [List.length_set];exact h.1,?_⟩
 rcases h.2 with ⟨e,_⟩ | ⟨g',cap,cur,e,h1,h2,h3,h4,h5,h6⟩
 · cases e
 · cases e
   refine .inr ⟨g,c,cur.setIfInBounds j u,rfl,h1,?_,h3,h4,by simp [h5],?_⟩
   · simp [World.setCell,Array.getElem?_modify,h2]
   · rw [←h6,Array.toList_setIfInBounds,List.take_set]
theorem owns_free2 {w:World} {B n c g:Nat} {t:TypeId} {cs:List Value} (h:w.ownsRow B t 2 (.slice (some ⟨g,0,none⟩) n c) n cs) (j:Nat):w.frozen? ⟨g,j,none⟩=false:=by
 rcases h.2 with ⟨e,_⟩ | ⟨g',cap,cur,e,h1,h2,_⟩
 · cases e
 · cases e
   simp [World.frozen?, h2]
theorem owns_room2' {w:World} {B n c:Nat} {t:TypeId} {A:Option Addr} {cs:List Value} (h:w.ownsRow B t 2 (.slice A n c) n cs):n≤c∧c≤maxLen:=by
 rcases h.2 with ⟨e,_⟩ | ⟨g,cap,cur,e,_,_,h1,h2,_⟩
 · cases e
   exact ⟨Nat.le_refl _,Nat.zero_le _⟩
 · cases e
   exact ⟨h1,h2⟩
theorem owns_slice2 {w:World} {B n:Nat} {t:TypeId} {v:Value} {cs:List Value} (h:w.ownsRow B t 2 v n cs):(n=0∧v=.slice none 0 0)∨∃g c,v=.slice (some ⟨g,0,none⟩) n c∧B≤g∧g < w.heap.size:=by
 have h1:=h.1
 rcases h.2 with ⟨e,h0⟩ | ⟨g,cap,cur,e,h2,h3,_⟩
 · exact .inl ⟨by omega,e⟩
 · exact .inr ⟨g,cap,e,h2,(Array.getElem?_eq_some_iff.1 h3).1⟩
theorem owns_unlike {w:World} {B1 B2 s1 s2 n1 n2:Nat} {e1 e2:TypeId} {v1 v2:Value} {x1 x2:List Value} (h1:w.ownsRow B1 e1 s1 v1 n1 x1) (h2:w.ownsRow B2 e2 s2 v2 n2 x2) (hne:e1≠e2):v1.ownBlock=none∨v1.ownBlock≠v2.ownBlock:=by
 rcases h1.2 with ⟨e,_⟩ | ⟨g,cap,cur,e,_,hh,_⟩
 · exact .inl (by rw [e];rfl)
 · rcases h2.2 with ⟨e',_⟩ | ⟨g',cap',cur',e',_,hh',_⟩
   · exact .inr (by rw [e,e'];exact fun h=>by cases h)
   · refine .inr fun h=>?_
     rw [e,e'] at h
     have h:some g=some g':=h
     cases h
     rw [hh] at hh'
     injection hh' with hh'
     injection hh' with _ hh' _
     exact hne hh'
end Go.Proofs.YtcidobpbepeakaaGreat

namespace Go.Proofs.YtcidobpbepeakaaGreat
def SLess (V:Nat→Int) (n a b:Nat):Prop:=∃k,(∀i,i < k→V (a+i)=V (b+i))∧b+k < n∧a+k≤n∧(a+k=n∨V (a+k) < V (b+k))
theorem SLess.lt {V:Nat→Int} {n a b:Nat} (h:SLess V n a b):b < n∧a≤n:=by
 obtain ⟨k,_,h2,h3,_⟩:=h
 omega
theorem sless_step {V:Nat→Int} {n a b:Nat} (ha:a < n) (_hb:b < n) (he:V a=V b):SLess V n a b↔SLess V n (a+1) (b+1):=by
 constructor
 · rintro ⟨k,h1,h2,h3,h4⟩
   cases k with
   | zero=>
     rcases h4 with h4 | h4
     · omega
     · exact absurd h4 (by show ¬V a < V b;omega)
   | succ k=>
     refine ⟨k,fun i hi=>?_,by omega,by omega,?_⟩
     · have:=h1 (i+1) (by omega)
       rwa [show a+1+i=a+(i+1) by omega,show b+1+i=b+(i+1) by omega]
     · rwa [show a+1+k=a+(k+1) by omega,show b+1+k=b+(k+1) by omega]
 · rintro ⟨k,h1,h2,h3,h4⟩
   refine ⟨k+1,fun i hi=>?_,by omega,by omega,?_⟩
   · cases i with
     | zero=>exact he
     | succ i=>
       have:=h1 i (by omega)
       rwa [show a+1+i=a+(i+1) by omega,show b+1+i=b+(i+1) by omega] at this
   · rwa [show a+1+k=a+(k+1) by omega,show b+1+k=b+(k+1) by omega] at h4
theorem sless_now {V:Nat→Int} {n a b:Nat} (ha:a < n) (hb:b < n) (he:V a≠V b):SLess V n a b↔V a < V b:=by
 constructor
 · rintro ⟨k,h1,h2,h3,h4⟩
   cases k with
   | zero=>
     rcases h4 with h4 | h4
     · omega
     · exact h4
   | succ k=>exact absurd (h1 0 (by omega)) he
 · intro h
   exact ⟨0,fun i hi=>absurd hi (Nat.not_lt_zero i),hb,by omega,.inr h⟩
theorem sless_end {V:Nat→Int} {n a b:Nat} (ha:a≤n) (h:¬(a < n∧b < n)):SLess V n a b↔a=n∧b < n:=by
 constructor
 · intro hs
   have:=hs.lt
   omega
 · rintro ⟨rfl,hb⟩
   exact ⟨0,fun i hi=>absurd hi (Nat.not_lt_zero i),hb,Nat.le_refl _,.inl rfl⟩
theorem sless_irrefl {V:Nat→Int} {n a:Nat}:¬SLess V n a a:=by
 rintro ⟨k,_,h2,h3,h4⟩
 rcases h4 with h4 | h4 <;> omega
theorem sless_trans {V:Nat→Int} {n a b c:Nat} (h:SLess V n a b) (h':SLess V n b c):SLess V n a c:=by
 obtain ⟨k,h1,h2,h3,h4⟩:=h
 obtain ⟨l,g1,g2,g3,g4⟩:=h'
 rcases Nat.lt_trichotomy k l with hkl | rfl | hkl
 · refine ⟨k,fun i hi=>(h1 i hi).trans (g1 i (by omega)),by omega,h3,?_⟩
   rcases h4 with h4 | h4
   · exact .inl h4
   · exact .inr (by rw [←g1 k hkl];exact h4)
 · refine ⟨k,fun i hi=>(h1 i hi).trans (g1 i hi),g2,h3,?_⟩
   rcases h4 with h4 | h4
   · exact .inl h4
   · rcases g4 with g4 | g4
     · omega
     · exact .inr (by omega)
 · refine ⟨l,fun i hi=>(h1 i (by omega)).trans (g1 i hi),g2,by omega,?_⟩
   rcases g4 with g4 | g4
   · omega
   · exact .inr (by rw [h1 l hkl];exact g4)
theorem sless_asymm {V:Nat→Int} {n a b:Nat} (h:SLess V n a b):¬SLess V n b a:=fun h'=>sless_irrefl (sless_trans h h')
theorem sless_total {V:Nat→Int} {n:Nat}:∀(m a b:Nat),n - a≤m→a≤n→b≤n→a≠b→SLess V n a b∨SLess V n b a:=by
 intro m
 induction m with
 | zero=>
   intro a b hm ha hb hne
   exact .inl ((sless_end ha (by omega)).2 (by omega))
 | succ m ih=>
   intro a b hm ha hb hne
   by_cases hab:a < n∧b < n
   · by_cases he:V a=V b
     · rcases ih (a+1) (b+1) (by omega) (by omega) (by omega) (by omega) with h | h
       · exact .inl ((sless_step hab.1 hab.2 he).2 h)
       · exact .inr ((sless_step hab.2 hab.1 he.symm).2 h)
     · rcases Int.lt_or_gt_of_ne he with h | h
       · exact .inl ((sless_now hab.1 hab.2 he).2 h)
       · exact .inr ((sless_now hab.2 hab.1 (Ne.symm he)).2 h)
   · by_cases han:a=n
     · exact .inl ((sless_end ha hab).2 (by omega))
     · exact .inr ((sless_end hb (by omega)).2 (by omega))
theorem sless_or {V:Nat→Int} {n a b:Nat} (ha:a≤n) (hb:b≤n) (hne:a≠b):SLess V n a b∨SLess V n b a:=sless_total (n - a) a b (Nat.le_refl _) ha hb hne
theorem sless_map {V V':Nat→Int} {n:Nat} (hm:∀i j,i < n→j < n→(V i < V j↔V' i < V' j)) {a b:Nat}:SLess V n a b↔SLess V' n a b:=by
 have he:∀i j,i < n→j < n→(V i=V j↔V' i=V' j):=fun i j hi hj=>by
  have h1:=hm i j hi hj
  have h2:=hm j i hj hi
  omega
 constructor
 · rintro ⟨k,h1,h2,h3,h4⟩
   refine ⟨k,fun i hi=>(he _ _ (by omega) (by omega)).1 (h1 i hi),h2,h3,?_⟩
   rcases h4 with h4 | h4
   · exact .inl h4
   · by_cases h5:a+k=n
     · exact .inl h5
     · exact .inr ((hm _ _ (by omega) h2).1 h4)
 · rintro ⟨k,h1,h2,h3,h4⟩
   refine ⟨k,fun i hi=>(he _ _ (by omega) (by omega)).2 (h1 i hi),h2,h3,?_⟩
   rcases h4 with h4 | h4
   · exact .inl h4
   · by_cases h5:a+k=n
     · exact .inl h5
     · exact .inr ((hm _ _ (by omega) h2).2 h4)
theorem inj_onto:∀(n:Nat) (f:Nat→Nat),(∀i,i < n→f i < n)→(∀i j,i < n→j < n→f i=f j→i=j)→∀p,p < n→∃i,i < n∧f i=p:=by
 intro n
 induction n with
 | zero=>intro f _ _ p hp;omega
 | succ n ih=>
   intro f hf hi p hp
   have hg:=ih (fun i=>if f i=n then f n else f i) (fun i hin=>by
    show (if f i=n then f n else f i) < n
    have h1:=hf i (by omega)
    have h2:=hf n (by omega)
    split
    · rename_i h
      have:f n≠n:=fun e=>by
       have:=hi i n (by omega) (by omega) (by omega)
       omega
      omega
    · omega) (fun i j hin hjn he=>by
    have he:(if f i=n then f n else f i)=(if f j=n then f n else f j):=he
    split at he
    · split at he
      · exact hi i j (by omega) (by omega) (by omega)
      · have:=hi n j (by omega) (by omega) he
        omega
    · split at he
      · have:=hi i n (by omega) (by omega) he
        omega
      · exact hi i j (by omega) (by omega) he)
   by_cases hpn:p < n
   · obtain ⟨i,h1,h2⟩:=hg p hpn
     have h2:(if f i=n then f n else f i)=p:=h2
     split at h2
     · exact ⟨n,by omega,h2⟩
     · exact ⟨i,by omega,h2⟩
   · obtain rfl:p=n:=by omega
     by_cases hfn:f p=p
     · exact ⟨p,by omega,hfn⟩
     · obtain ⟨i,h1,h2⟩:=hg (f p) (by have:=hf p (by omega);omega)
       have h2:(if f i=p then f p else f i)=f p:=h2
       split at h2
       · rename_i h
         exact ⟨i,by omega,h⟩
       · have:=hi i p (by omega) (by omega) h2
         omega
def IsSA (V:Nat→Int) (n:Nat) (s:Nat→Nat):Prop:=(∀i,i < n→s i < n)∧∀i j,i < j→j < n→SLess V n (s i) (s j)
section
variable {V V':Nat→Int} {n:Nat} {s s':Nat→Nat}
theorem IsSA.inj (h:IsSA V n s) {i j:Nat} (hi:i < n) (hj:j < n) (he:s i=s j):i=j:=by
 rcases Nat.lt_trichotomy i j with h1 | h1 | h1
 · have:=h.2 i j h1 hj
   rw [he] at this
   exact absurd this sless_irrefl
 · exact h1
 · have:=h.2 j i h1 hi
   rw [he] at this
   exact absurd this sless_irrefl
theorem IsSA.onto (h:IsSA V n s) {p:Nat} (hp:p < n):∃i,i < n∧s i=p:=inj_onto n s h.1 (fun _ _ hi hj he=>h.inj hi hj he) p hp
theorem IsSA.one (h:IsSA V n s) (h':IsSA V n s'):∀i,i < n→s i=s' i:=by
 intro i
 induction i using Nat.strongRecOn with
 | ind i ih=>
   intro hi
   obtain ⟨j,hj,he⟩:=h'.onto (h.1 i hi)
   have h1:i≤j:=by
    apply Nat.le_of_not_lt
    intro hlt
    have:=ih j hlt hj
    rw [he] at this
    have:=h.inj hj hi this
    omega
   by_cases e:j=i
   · rw [←he,e]
   · have h2:=h'.2 i j (by omega) hj
     rw [he] at h2
     obtain ⟨m,hm,hme⟩:=h.onto (h'.1 i hi)
     have h3:i≤m:=by
      apply Nat.le_of_not_lt
      intro hlt
      have:=ih m hlt hm
      rw [hme] at this
      have:=h'.inj hi hm this
      omega
     rw [←hme] at h2
     rcases Nat.lt_or_ge i m with h4 | h4
     · exact absurd h2 (sless_asymm (h.2 i m h4 hm))
     · have:m=i:=by omega
       rw [this] at h2
       exact absurd h2 sless_irrefl
theorem IsSA.mapped (h:IsSA V n s) (hm:∀i j,i < n→j < n→(V i < V j↔V' i < V' j)):IsSA V' n s:=⟨h.1,fun i j hij hj=>(sless_map hm).1 (h.2 i j hij hj)⟩
theorem IsSA.congr (h:IsSA V n s) (hs:∀i,i < n→s i=s' i):IsSA V n s':=⟨fun i hi=>by rw [←hs i hi];exact h.1 i hi,fun i j hij hj=>by rw [←hs i (by omega),←hs j hj];exact h.2 i j hij hj⟩
end
def IsPerm (V:Nat→Int) (n:Nat):Prop:=(∀i,i < n→0≤V i∧V i < (n:Int))∧∀i j,i < j→j < n→V i≠V j
def Turns (V R:Nat→Int) (n:Nat):Prop:=∀i,i < n→R (V i).toNat=(i:Int)
section
variable {V R R':Nat→Int} {n:Nat}
theorem IsPerm.inj (h:IsPerm V n) {i j:Nat} (hi:i < n) (hj:j < n) (he:V i=V j):i=j:=by
 rcases Nat.lt_trichotomy i j with h1 | h1 | h1
 · exact absurd he (h.2 i j h1 hj)
 · exact h1
 · exact absurd he.symm (h.2 j i h1 hi)
theorem IsPerm.onto (h:IsPerm V n) {p:Nat} (hp:p < n):∃i,i < n∧V i=(p:Int):=by
 obtain ⟨i,h1,h2⟩:=inj_onto n (fun i=>(V i).toNat) (fun i hi=>by have:=h.1 i hi;show (V i).toNat < n;omega) (fun i j hi hj he=>h.inj hi hj (by
  have h1:=h.1 i hi
  have h2:=h.1 j hj
  have he:(V i).toNat=(V j).toNat:=he
  omega)) p hp
 refine ⟨i,h1,?_⟩
 have h3:=h.1 i h1
 have h2:(V i).toNat=p:=h2
 omega
theorem IsSA.perm {V:Nat→Int} {n:Nat} {s:Nat→Nat} (h:IsSA V n s):IsPerm (fun i=>((s i:Nat):Int)) n:=⟨fun i hi=>by have:=h.1 i hi;show 0≤((s i:Nat):Int)∧((s i:Nat):Int) < n;omega,fun i j hij hj he=>by
 have he:((s i:Nat):Int)=((s j:Nat):Int):=he
 have:=h.inj (i:=i) (j:=j) (by omega) hj (by omega)
 omega⟩
end
end Go.Proofs.YtcidobpbepeakaaGreat

namespace Go.Proofs.YtcidobpbepeakaaGreat
def Shares (V:Nat→Int) (n a b k:Nat):Prop:=∀i,i < k→a+i < n∧b+i < n∧V (a+i)=V (b+i)
section
variable {V:Nat→Int} {n a b c k:Nat}
theorem Shares.zero:Shares V n a b 0:=fun _ hi=>absurd hi (Nat.not_lt_zero _)
theorem Shares.symm (h:Shares V n a b k):Shares V n b a k:=fun i hi=>⟨(h i hi).2.1,(h i hi).1,(h i hi).2.2.symm⟩
theorem Shares.trans (h:Shares V n a b k) (h':Shares V n b c k):Shares V n a c k:=fun i hi=>⟨(h i hi).1,(h' i hi).2.1,(h i hi).2.2.trans (h' i hi).2.2⟩
theorem Shares.less {j:Nat} (h:Shares V n a b k) (hj:j≤k):Shares V n a b j:=fun i hi=>h i (by omega)
theorem Shares.in (h:Shares V n a b k) (hk:0 < k):a+k≤n∧b+k≤n:=by
 have:=h (k - 1) (by omega)
 omega
end
noncomputable def comF (V:Nat→Int) (n a b:Nat):Nat→Nat
 | 0=>0
 | m+1=>open Classical in if Shares V n a b (m+1) then m+1 else comF V n a b m
noncomputable def com (V:Nat→Int) (n a b:Nat):Nat:=comF V n a b n
section
variable {V:Nat→Int} {n a b:Nat}
theorem comF_le:∀m k,k≤m→(k≤comF V n a b m↔Shares V n a b k):=by
 intro m
 induction m with
 | zero=>
   intro k hk
   obtain rfl:k=0:=by omega
   exact ⟨fun _=>Shares.zero,fun _=>Nat.zero_le _⟩
 | succ m ih=>
   intro k hk
   unfold comF
   split
   · rename_i h
     exact ⟨fun h1=>h.less h1,fun _=>hk⟩
   · rename_i h
     by_cases e:k=m+1
     · subst e
       have h1:comF V n a b m≤m:=by
        have:∀m,comF V n a b m≤m:=by
         intro m
         induction m with
         | zero=>exact Nat.le_refl _
         | succ m ih=>
           unfold comF
           split
           · exact Nat.le_refl _
           · omega
        exact this m
       exact ⟨fun h2=>by omega,fun h2=>absurd h2 h⟩
     · exact ih k (by omega)
theorem com_le {k:Nat}:k≤com V n a b↔Shares V n a b k:=by
 by_cases hk:k≤n
 · exact comF_le n k hk
 · have h1:com V n a b≤n:=by
    apply Nat.le_of_not_lt
    intro hlt
    have:∀m,comF V n a b m≤m:=by
     intro m
     induction m with
     | zero=>exact Nat.le_refl _
     | succ m ih=>
       unfold comF
       split
       · exact Nat.le_refl _
       · omega
    have:=this n
    unfold com at hlt
    omega
   exact ⟨fun h=>by omega,fun h=>by have:=h (k - 1) (by omega);omega⟩
theorem com_is {k:Nat} (h:Shares V n a b k) (h':¬(a+k < n∧b+k < n∧V (a+k)=V (b+k))):com V n a b=k:=by
 have h1:=com_le.2 h
 have h2:¬k+1≤com V n a b:=fun h3=>h' ((com_le.1 h3) k (by omega))
 omega
theorem com_shares:Shares V n a b (com V n a b):=com_le.1 (Nat.le_refl _)
theorem com_symm:com V n a b=com V n b a:=Nat.le_antisymm (com_le.2 com_shares.symm) (com_le.2 com_shares.symm)
theorem com_in (ha:a≤n):a+com V n a b≤n:=by
 have h:=com_shares (V:=V) (n:=n) (a:=a) (b:=b)
 by_cases h0:com V n a b=0
 · omega
 · exact (h.in (by omega)).1
end
theorem shares_between {V:Nat→Int} {n a b c k:Nat} (h1:SLess V n a b) (h2:SLess V n b c) (h:Shares V n a c k):Shares V n a b k∧Shares V n b c k:=by
 have hab:Shares V n a b k:=by
  obtain ⟨k1,p1,p2,p3,p4⟩:=h1
  obtain ⟨k2,q1,q2,q3,q4⟩:=h2
  have hk:k≤k1:=by
   apply Nat.le_of_not_lt
   intro hlt
   obtain ⟨r1,r2,r3⟩:=h k1 hlt
   have p4:V (a+k1) < V (b+k1):=p4.resolve_left (by omega)
   rcases Nat.lt_trichotomy k2 k1 with e | e | e
   · obtain ⟨s1,s2,s3⟩:=h k2 (by omega)
     have:=p1 k2 e
     rcases q4 with q4 | q4 <;> omega
   · subst e
     rcases q4 with q4 | q4 <;> omega
   · have:=q1 k1 e
     omega
  intro i hi
  have:=h i hi
  exact ⟨this.1,by omega,p1 i (by omega)⟩
 exact ⟨hab,hab.symm.trans h⟩
theorem com_between {V:Nat→Int} {n a b c:Nat} (h1:SLess V n a b) (h2:SLess V n b c):com V n a c=min (com V n a b) (com V n b c):=by
 have h:=shares_between h1 h2 (com_shares (V:=V) (n:=n) (a:=a) (b:=c))
 have g1:=com_le.2 h.1
 have g2:=com_le.2 h.2
 have g3:min (com V n a b) (com V n b c)≤com V n a c:=com_le.2 ((com_shares.less (Nat.min_le_left _ _)).trans (com_shares.less (Nat.min_le_right _ _)))
 omega
noncomputable def comI (V:Nat→Int) (n:Nat) (a b:Int):Int:=if 0≤a∧a < (n:Int)∧0≤b∧b < (n:Int) then ((com V n a.toNat b.toNat:Nat):Int) else 0
theorem comI_in {V:Nat→Int} {n a b:Nat} (ha:a < n) (hb:b < n):comI V n (a:Int) (b:Int)=((com V n a b:Nat):Int):=by
 unfold comI
 rw [if_pos (by omega),Int.toNat_natCast,Int.toNat_natCast]
theorem comI_room {V:Nat→Int} {n:Nat} {a b:Int}:0≤comI V n a b∧comI V n a b≤(n:Int):=by
 unfold comI
 split
 · rename_i h
   have:=com_in (V:=V) (n:=n) (a:=a.toNat) (b:=b.toNat) (by omega)
   omega
 · omega
noncomputable def lcpI (V:Nat→Int) (n:Nat) (S:Nat→Int) (i:Nat):Int:=if i=0 then 0 else comI V n (S (i - 1)) (S i)
theorem lcpI_zero {V:Nat→Int} {n:Nat} {S:Nat→Int}:lcpI V n S 0=0:=rfl
theorem lcpI_succ {V:Nat→Int} {n:Nat} {S:Nat→Int} {i:Nat}:lcpI V n S (i+1)=comI V n (S i) (S (i+1)):=by
 unfold lcpI
 rw [if_neg (by omega),Nat.add_sub_cancel]
theorem lcpI_congr {V:Nat→Int} {n m:Nat} {S S':Nat→Int} (h:∀i,i < m→S i=S' i):∀i,i < m→lcpI V n S i=lcpI V n S' i:=fun i hi=>by
 cases i with
 | zero=>rfl
 | succ i=>rw [lcpI_succ,lcpI_succ,h i (by omega),h _ hi]
theorem lcpI_room {V:Nat→Int} {n:Nat} {S:Nat→Int} {i:Nat}:0≤lcpI V n S i∧lcpI V n S i≤(n:Int):=by
 unfold lcpI
 split
 · omega
 · exact comI_room
def lowR (L:Nat→Int) (x:Nat):Nat→Int
 | 0=>L (x+1)
 | d+1=>min (lowR L x d) (L (x+1+(d+1)))
theorem lowR_le (L:Nat→Int) (x:Nat):∀d v,v≤lowR L x d↔∀i,i≤d→v≤L (x+1+i):=by
 intro d
 induction d with
 | zero=>
   intro v
   exact ⟨fun h i hi=>by obtain rfl:i=0:=by omega
                         exact h,fun h=>h 0 (Nat.le_refl _)⟩
 | succ d ih=>
   intro v
   unfold lowR
   rw [Int.le_min,ih]
   constructor
   · rintro ⟨h1,h2⟩ i hi
     by_cases e:i=d+1
     · subst e
       exact h2
     · exact h1 i (by omega)
   · intro h
     exact ⟨fun i hi=>h i (by omega),h _ (Nat.le_refl _)⟩
theorem low_one {u v:Int} (h:∀x,x≤u↔x≤v):u=v:=Int.le_antisymm ((h u).1 (Int.le_refl _)) ((h v).2 (Int.le_refl _))
theorem low_com {V:Nat→Int} {n x:Nat} {s:Nat→Nat} (h:IsSA V n s):∀d,x+1+d < n→lowR (lcpI V n fun i=>((s i:Nat):Int)) x d=((com V n (s x) (s (x+1+d)):Nat):Int):=by
 intro d
 induction d with
 | zero=>
   intro hd
   show lcpI V n (fun i=>((s i:Nat):Int)) (x+1)=_
   rw [lcpI_succ,comI_in (h.1 _ (by omega)) (h.1 _ (by omega))]
 | succ d ih=>
   intro hd
   unfold lowR
   rw [ih (by omega),show x+1+(d+1)=(x+1+d)+1 by omega,lcpI_succ,comI_in (h.1 _ (by omega)) (h.1 _ (by omega)),com_between (h.2 x (x+1+d) (by omega) (by omega)) (h.2 (x+1+d) (x+1+d+1) (by omega) (by omega))]
   omega
noncomputable def ind (p:Prop):Nat:=open Classical in if p then 1 else 0
theorem ind_congr {p q:Prop} (h:p↔q):ind p=ind q:=by rw [propext h]
theorem ind_pos {p:Prop} (h:p):ind p=1:=if_pos h
theorem ind_neg {p:Prop} (h:¬p):ind p=0:=if_neg h
def downS (s:Nat→Nat):Nat→List Nat
 | 0=>[]
 | i+1=>s i::downS s i
theorem count_downS {s:Nat→Nat} {p:Nat}:∀ {i},(∀a b,a < i→b < i→s a=s b→a=b)→(downS s i).count p=ind (∃j,j < i∧s j=p):=by
 intro i
 induction i with
 | zero=>intro _;rw [ind_neg (fun ⟨j,hj,_⟩=>absurd hj (Nat.not_lt_zero j))];rfl
 | succ i ih=>
   intro hi
   have h1:=ih (fun a b ha hb=>hi a b (by omega) (by omega))
   unfold downS
   rw [List.count_cons,h1]
   by_cases e:s i=p
   · subst e
     rw [ind_neg (fun ⟨j,hj,e'⟩=>by have:=hi j i (by omega) (by omega) e';omega),ind_pos ⟨i,by omega,rfl⟩]
     simp
   · have:(∃j,j < i+1∧s j=p)↔(∃j,j < i∧s j=p):=⟨fun ⟨j,hj,e'⟩=>⟨j,by
      apply Nat.lt_of_le_of_ne (by omega)
      rintro rfl
      exact e e',e'⟩,fun ⟨j,hj,e'⟩=>⟨j,by omega,e'⟩⟩
     rw [ind_congr this]
     simp [e]
theorem cnt_between (l h:Nat) (hlh:l≤h):∀m,Pl.cnt (fun k=>decide (l≤k∧k < h)) m=min m h - min m l:=by
 intro m
 induction m with
 | zero=>simp [Pl.cnt]
 | succ m ih=>
   rw [Pl.cnt_succ,ih]
   by_cases e:l≤m∧m < h
   · simp only [e,and_self,decide_true,if_true]
     omega
   · rw [decide_eq_false e]
     simp
     omega
end Go.Proofs.YtcidobpbepeakaaGreat

namespace Go.Proofs.YtcidobpbepeakaaGreat
open Pl (cnt cnt_succ cnt_congr)
def Bij (n:Nat) (g:Nat→Nat):Prop:=(∀i,i < n→g i < n)∧∀i j,i < n→j < n→g i=g j→i=j
theorem Bij.onto {n:Nat} {g:Nat→Nat} (h:Bij n g) {p:Nat} (hp:p < n):∃i,i < n∧g i=p:=inj_onto n g h.1 h.2 p hp
theorem bij_perm {n:Nat} {g:Nat→Nat} (h:Bij n g):(downS g n).Perm (downS id n):=by
 rw [List.perm_iff_count]
 intro p
 rw [count_downS h.2,count_downS (s:=id) (fun a b _ _ he=>he)]
 exact ind_congr ⟨fun ⟨j,hj,e⟩=>⟨p,by rw [←e];exact h.1 j hj,rfl⟩,fun ⟨j,hj,e⟩=>by
  have e:j=p:=e
  exact h.onto (by omega)⟩
theorem countP_downS (P:Nat→Bool) (g:Nat→Nat):∀n,(downS g n).countP P=cnt (fun j=>P (g j)) n
 | 0=>rfl
 | n+1=>by
   show (g n::downS g n).countP P=_
   rw [List.countP_cons,countP_downS P g n,cnt_succ]
theorem cnt_bij {n:Nat} {g:Nat→Nat} (h:Bij n g) (P:Nat→Bool):cnt (fun j=>P (g j)) n=cnt P n:=by
 rw [←countP_downS P g n,(bij_perm h).countP_eq,countP_downS]
 rfl
theorem cnt_lt:∀n k,k≤n→cnt (fun j=>decide (j < k)) n=k
 | 0,k,hk=>by
   obtain rfl:k=0:=by omega
   rfl
 | n+1,k,hk=>by
   rw [cnt_succ]
   by_cases e:k=n+1
   · subst e
     rw [cnt_congr (g:=fun j=>decide (j < n)) (fun j hj=>decide_eq_decide.2 (by omega)),cnt_lt n n (Nat.le_refl _),decide_eq_true (show n < n+1 by omega)]
     rfl
   · rw [cnt_lt n k (by omega),decide_eq_false (show ¬n < k by omega)]
     rfl
def belowI (V:Nat→Int) (n:Nat) (c:Int):Nat:=cnt (fun j=>decide (V j < c)) n
def aheadI (V:Nat→Int) (n:Nat) (c:Int):Nat:=cnt (fun j=>decide (V j=c)) n
theorem belowI_succ (V:Nat→Int) (n:Nat) (c:Int):belowI V (n+1) c=belowI V n c+(if V n < c then 1 else 0):=by
 unfold belowI
 rw [cnt_succ]
 by_cases h:V n < c <;> simp [h]
theorem aheadI_succ (V:Nat→Int) (n:Nat) (c:Int):aheadI V (n+1) c=aheadI V n c+(if V n=c then 1 else 0):=by
 unfold aheadI
 rw [cnt_succ]
 by_cases h:V n=c <;> simp [h]
theorem cnt_le (f:Nat→Bool):∀n,cnt f n≤n
 | 0=>Nat.le_refl _
 | n+1=>by
   have:=cnt_le f n
   rw [cnt_succ]
   split <;> omega
theorem belowI_le (V:Nat→Int) (n:Nat) (c:Int):belowI V n c≤n:=cnt_le _ n
theorem aheadI_le (V:Nat→Int) (n:Nat) (c:Int):aheadI V n c≤n:=cnt_le _ n
theorem cnt_or (P Q:Nat→Bool):∀n,(∀j,j < n→¬(P j=true∧Q j=true))→cnt (fun j=>P j || Q j) n=cnt P n+cnt Q n
 | 0,_=>rfl
 | n+1,h=>by
   have h1:=h n (by omega)
   rw [cnt_succ,cnt_succ,cnt_succ,cnt_or P Q n (fun j hj=>h j (by omega))]
   rcases hp:P n with _ | _ <;> rcases hq:Q n with _ | _
   · simp
   · simp;omega
   · simp;omega
   · exact absurd ⟨hp,hq⟩ h1
theorem cnt_upto (P:Nat→Bool) (i:Nat):∀n,i≤n→cnt (fun j=>P j&&decide (j < i)) n=cnt P i
 | 0,h=>by
   obtain rfl:i=0:=by omega
   rfl
 | n+1,h=>by
   by_cases e:i=n+1
   · subst e
     exact cnt_congr fun j hj=>by rw [decide_eq_true (by omega),Bool.and_true]
   · rw [cnt_succ,cnt_upto P i n (by omega),decide_eq_false (show ¬n < i by omega),Bool.and_false]
     rfl
def stepI (V:Nat→Int) (n i:Nat):Nat:=belowI V n (V i)+aheadI V i (V i)
theorem stepI_lt {V:Nat→Int} {n i:Nat} (hi:i < n):stepI V n i < n:=by
 have h:∀m,m≤n→i < m→cnt (fun j=>decide (V j < V i)) m+cnt (fun j=>decide (V j=V i)&&decide (j < i)) m < m:=by
  intro m
  induction m with
  | zero=>intro _ h;omega
  | succ m ih=>
    intro hm him
    rw [cnt_succ,cnt_succ]
    by_cases e:i=m
    · subst e
      have h2:∀k,k≤i→cnt (fun j=>decide (V j < V i)) k+cnt (fun j=>decide (V j=V i)&&decide (j < i)) k≤k:=by
       intro k
       induction k with
       | zero=>intro _;exact Nat.le_refl _
       | succ k ih2=>
         intro hk
         have:=ih2 (by omega)
         rw [cnt_succ,cnt_succ]
         by_cases h3:V k < V i
         · have h4:¬V k=V i:=by omega
           simp only [h3,h4,decide_true,decide_false,Bool.false_and,if_true,Bool.false_eq_true,if_false]
           omega
         · simp only [h3,decide_false,Bool.false_eq_true,if_false]
           split <;> omega
      have:=h2 i (Nat.le_refl _)
      have h3:¬V i < V i:=by omega
      have h4:¬i < i:=by omega
      simp only [h3,h4,decide_false,Bool.and_false,Bool.false_eq_true,if_false]
      omega
    · have:=ih (by omega) (by omega)
      by_cases h3:V m < V i
      · have h4:¬V m=V i:=by omega
        simp only [h3,h4,decide_true,decide_false,Bool.false_and,if_true,Bool.false_eq_true,if_false]
        omega
      · simp only [h3,decide_false,Bool.false_eq_true,if_false]
        split <;> omega
 have h1:=h n (Nat.le_refl _) hi
 rw [cnt_upto _ i n (by omega)] at h1
 exact h1
theorem bij_ranked {n:Nat} {f:Nat→Nat} (h:Bij n f) {V:Nat→Int} (ho:∀i j,i < n→j < n→(f j < f i↔V j < V i∨V j=V i∧j < i)) {i:Nat} (hi:i < n):f i=stepI V n i:=by
 have h1:cnt (fun j=>decide (f j < f i)) n=f i:=(cnt_bij h fun j=>decide (j < f i)).trans (cnt_lt n (f i) (Nat.le_of_lt (h.1 i hi)))
 rw [←h1]
 unfold stepI
 show _=cnt (fun j=>decide (V j < V i)) n+cnt (fun j=>decide (V j=V i)) i
 rw [←cnt_upto (fun j=>decide (V j=V i)) i n (by omega),←cnt_or _ _ n (fun j _=>by
  rintro ⟨h2,h3⟩
  rw [Bool.and_eq_true,decide_eq_true_iff,decide_eq_true_iff] at h3
  rw [decide_eq_true_iff] at h2
  omega)]
 refine cnt_congr fun j hj=>?_
 have h2:=ho i j hi hj
 rw [Bool.eq_iff_iff,Bool.or_eq_true,Bool.and_eq_true,decide_eq_true_iff,decide_eq_true_iff,decide_eq_true_iff,decide_eq_true_iff]
 exact h2
def turnI (T:Nat→Int) (n:Nat) (S:Nat→Int) (i:Nat):Int:=if S i=0 then T (n - 1) else T ((S i).toNat - 1)
def aheadN (n p:Nat):Nat:=if p=0 then n - 1 else p - 1
theorem turnI_at {T:Nat→Int} {n:Nat} {S:Nat→Int} {i p:Nat} (h:S i=(p:Int)):turnI T n S i=T (aheadN n p):=by
 unfold turnI aheadN
 rw [h]
 by_cases h:p=0
 · rw [if_pos (by omega),if_pos h]
 · rw [if_neg (by omega),if_neg h,Int.toNat_natCast]
theorem aheadN_lt {n p:Nat} (hp:p < n):aheadN n p < n:=by unfold aheadN;split <;> omega
theorem aheadN_inj {n p q:Nat} (hp:p < n) (hq:q < n) (h:aheadN n p=aheadN n q):p=q:=by
 unfold aheadN at h
 split at h <;> split at h <;> omega
end Go.Proofs.YtcidobpbepeakaaGreat

namespace Go.Proofs.YtcidobpbepeakaaGreat
open Pl (cnt cnt_succ cnt_congr)
def lookB (V:Nat→Int) (x:Int):Nat→Int
 | 0=> -1
 | m+1=>if V m=x then (m:Int) else lookB V x m
def lastD (V:Nat→Int) (i:Nat):Int:=lookB V (V i) i
theorem lookB_hit {V:Nat→Int} {x:Int} {m:Nat} (h:V m=x):lookB V x (m+1)=(m:Int):=if_pos h
theorem lookB_miss {V:Nat→Int} {x:Int} {m:Nat} (h:V m≠x):lookB V x (m+1)=lookB V x m:=if_neg h
theorem lookB_is {V:Nat→Int} {x:Int}:∀m,(lookB V x m= -1∧∀j,j < m→V j≠x)∨∃p,p < m∧lookB V x m=(p:Int)∧V p=x∧∀j,p < j→j < m→V j≠x
 | 0=>.inl ⟨rfl,fun j hj=>absurd hj (Nat.not_lt_zero j)⟩
 | m+1=>by
   by_cases h:V m=x
   · exact .inr ⟨m,by omega,lookB_hit h,h,fun j h1 h2=>by omega⟩
   · rw [lookB_miss h]
     rcases lookB_is m (V:=V) (x:=x) with ⟨h1,h2⟩ | ⟨p,h1,h2,h3,h4⟩
     · exact .inl ⟨h1,fun j hj=>by
        by_cases e:j=m
        · rw [e];exact h
        · exact h2 j (by omega)⟩
     · exact .inr ⟨p,by omega,h2,h3,fun j g1 g2=>by
        by_cases e:j=m
        · rw [e];exact h
        · exact h4 j g1 (by omega)⟩
theorem lookB_room {V:Nat→Int} {x:Int} {m:Nat}: -1≤lookB V x m∧lookB V x m < (m:Int):=by
 rcases lookB_is (V:=V) (x:=x) m with ⟨h1,_⟩ | ⟨q,h1,h2,_,_⟩
 · omega
 · omega
theorem lastD_is (V:Nat→Int) (i:Nat):(lastD V i= -1∧∀j,j < i→V j≠V i)∨∃p,p < i∧lastD V i=(p:Int)∧V p=V i∧∀j,p < j→j < i→V j≠V i:=lookB_is i
theorem lastD_room (V:Nat→Int) (i:Nat): -1≤lastD V i∧lastD V i < (i:Int):=lookB_room
def cntR (V:Nat→Int) (d a b:Int) (m:Nat):Nat:=cnt (fun j=>decide (V j=d∧a≤(j:Int)∧(j:Int) < b)) m
theorem cntR_miss {V:Nat→Int} {d a b:Int} {m:Nat} (h:¬(V m=d∧a≤(m:Int)∧(m:Int) < b)):cntR V d a b (m+1)=cntR V d a b m:=by
 unfold cntR
 rw [cnt_succ,if_neg (by rw [decide_eq_true_iff];exact h),Nat.add_zero]
end Go.Proofs.YtcidobpbepeakaaGreat

namespace Go.Proofs.YtcidobpbepeakaaGreat
open Pl (cnt cnt_succ cnt_congr)
def partL (V:Nat→Int) (a b:Int):Nat→List Int
 | 0=>[]
 | m+1=>partL V a b m++(if a≤(m:Int)∧(m:Int) < b then [V m] else [])
theorem partL_hit {V:Nat→Int} {a b:Int} {m:Nat} (h:a≤(m:Int)∧(m:Int) < b):partL V a b (m+1)=partL V a b m++[V m]:=by
 show partL V a b m++_=_
 rw [if_pos h]
theorem partL_miss {V:Nat→Int} {a b:Int} {m:Nat} (h:¬(a≤(m:Int)∧(m:Int) < b)):partL V a b (m+1)=partL V a b m:=by
 show partL V a b m++_=_
 rw [if_neg h,List.append_nil]
theorem mem_partL {V:Nat→Int} {a b x:Int}:∀ {m},x∈partL V a b m↔∃j:Nat,j < m∧a≤(j:Int)∧(j:Int) < b∧V j=x
 | 0=>⟨fun h=>(by cases h),fun ⟨j,hj,_⟩=>absurd hj (Nat.not_lt_zero j)⟩
 | m+1=>by
   have ih:=mem_partL (V:=V) (a:=a) (b:=b) (x:=x) (m:=m)
   by_cases h:a≤(m:Int)∧(m:Int) < b
   · rw [partL_hit h,List.mem_append,ih,List.mem_singleton]
     constructor
     · rintro (⟨j,h1,h2⟩ | h1)
       · exact ⟨j,by omega,h2⟩
       · exact ⟨m,by omega,h.1,h.2,h1.symm⟩
     · rintro ⟨j,h1,h2,h3,h4⟩
       by_cases e:j=m
       · exact .inr (by rw [←h4,e])
       · exact .inl ⟨j,by omega,h2,h3,h4⟩
   · rw [partL_miss h,ih]
     constructor
     · rintro ⟨j,h1,h2⟩
       exact ⟨j,by omega,h2⟩
     · rintro ⟨j,h1,h2,h3,h4⟩
       by_cases e:j=m
       · subst e
         exact absurd ⟨h2,h3⟩ h
       · exact ⟨j,by omega,h2,h3,h4⟩
theorem countP_partL (V:Nat→Int) (a b:Int) (p:Int→Bool):∀m,(partL V a b m).countP p=cnt (fun j=>decide (a≤(j:Int)∧(j:Int) < b)&&p (V j)) m
 | 0=>rfl
 | m+1=>by
   have ih:=countP_partL V a b p m
   rw [cnt_succ]
   by_cases h:a≤(m:Int)∧(m:Int) < b
   · rw [partL_hit h,List.countP_append,ih,decide_eq_true h,Bool.true_and,List.countP_cons,List.countP_nil,Nat.zero_add]
   · rw [partL_miss h,ih,decide_eq_false h,Bool.false_and]
     rfl
theorem cntR_part (V:Nat→Int) (d a b:Int) (m:Nat):(partL V a b m).countP (fun x=>decide (x=d))=cntR V d a b m:=by
 rw [countP_partL]
 unfold cntR
 refine cnt_congr fun j _=>?_
 rw [←Bool.decide_and]
 exact decide_eq_decide.2 ⟨fun h=>⟨h.2,h.1⟩,fun h=>⟨h.2,h.1⟩⟩
def widthN (m:Nat):Nat:=if h:m≤1 then 1 else widthN (m / 2)+1
termination_by m
decreasing_by omega
theorem widthN_low {m:Nat} (h:m≤1):widthN m=1:=by
 unfold widthN
 rw [dif_pos h]
theorem widthN_up {m:Nat} (h:¬m≤1):widthN m=widthN (m / 2)+1:=by
 rw [widthN,dif_neg h]
theorem widthN_pos (m:Nat):1≤widthN m:=by
 by_cases h:m≤1
 · rw [widthN_low h]
   exact Nat.le_refl _
 · rw [widthN_up h]
   omega
theorem widthN_pow:∀(k m:Nat),m < 2^k→1≤k→widthN m≤k:=by
 intro k
 induction k with
 | zero=>intro m _ h;omega
 | succ k ih=>
   intro m hm _
   by_cases h:m≤1
   · rw [widthN_low h]
     omega
   · rw [widthN_up h]
     rw [Nat.pow_succ] at hm
     by_cases hk:k=0
     · subst hk
       omega
     · have:=ih (m / 2) (by omega) (by omega)
       omega
theorem lt_widthN (m:Nat):m < 2^widthN m:=by
 induction m using Nat.strongRecOn with
 | _ m ih=>
   by_cases h:m≤1
   · rw [widthN_low h]
     omega
   · rw [widthN_up h,Nat.pow_succ]
     have:=ih (m / 2) (by omega)
     omega
end Go.Proofs.YtcidobpbepeakaaGreat

namespace Go.Proofs.YtcidobpbepeakaaGreat
open Go.RowKit
theorem refLess_any (A:Option Addr) (n c:Nat) (V:Nat→Int) (a b B:Nat) (w:World) (hn:n≤maxLen) (ha:a≤n) (hb:b≤n) (ho:∀q,Its (w.drewN q) B A n V):
    Calls Tryz.prog 43 #[.slice A n c,.int .i64 (a:Int),.int .i64 (b:Int)] w fun e w'=>∃r:Bool,e=.returned (.bool r)∧(r=true↔SLess V n a b)∧∃q,w'=w.drewN q:=by
 have HO:=Lib.hid ho
 have hnl:n≤9223372036854775807:=by unfold maxLen at hn;omega
 clear ho hn
 go_enter Tryz.func43,Tryz.ntmps43
 go_wp2_with fail
 go_loopw [1,2] (fun s1 s2 wr=>∃x y q:Nat,x≤n∧y≤n∧s1=.int .i64 (x:Int)∧s2=.int .i64 (y:Int)∧Hid (SLess V n a b↔SLess V n x y)∧wr=w.drewN q) (fun s1 _ _=>n - (intOf s1).toNat)
 case atStart=>exact ⟨a,b,0,ha,hb,rfl,rfl,Lib.hid Iff.rfl,rfl⟩
 case round=>
  obtain ⟨x,y,q,hx,hy,rfl,rfl,HS,rfl⟩:=hrel
  by_cases hxy:x < n∧y < n
  · obtain ⟨hx1,hy1⟩:=hxy
    have dx:decide ((x:Int) < (n:Int))=true:=decide_eq_true (by omega)
    have dy:decide ((y:Int) < (n:Int))=true:=decide_eq_true (by omega)
    have hxi:(x:Int) < (n:Int):=by omega
    have hyi:(y:Int) < (n:Int):=by omega
    have hcx:∃ad:Addr,A=some ad:=(HO.out 0 x hx1).elim fun ad h=>⟨ad,h.1⟩
    obtain ⟨ad,rfl⟩:=hcx
    have hc1:∀r,(w.drewN r).cell? (ad.add x)=some (.int .i64 (V x)):=fun r=>by
     obtain ⟨ad',e,_,h,_⟩:=HO.out r x hx1
     cases e
     exact h
    have hc2:∀r,(w.drewN r).cell? (ad.add y)=some (.int .i64 (V y)):=fun r=>by
     obtain ⟨ad',e,_,h,_⟩:=HO.out r y hy1
     cases e
     exact h
    have hstep:=Lib.hid (sless_step (V:=V) hx1 hy1)
    have hnow:=Lib.hid (sless_now (V:=V) hx1 hy1)
    generalize V x=vx at hc1 hstep hnow
    generalize V y=vy at hc2 hstep hnow
    by_cases he:vx=vy
    · subst he
      have hne:(vx != vx)=false:=by simp
      go_wp2_with fail
      go_quiet (fail)
      go_wp2_with fail
      go_roundw
      case rel=>exact ⟨x+1,y+1,_,by omega,by omega,by go_num,by go_num,Lib.hid (HS.out.trans (hstep.out trivial)),rfl⟩
      case measure=>simp [intOf];omega
    · have hne:(vx != vy)=true:=by simp [he]
      have HE:=Lib.hid he
      clear he
      go_wp2_with fail
      go_quiet (fail)
      go_wp2_with fail
      go_quiet (fail)
      go_wp2_with fail
      go_ret
      exact ⟨_,rfl,by rw [decide_eq_true_iff,HS.out,hnow.out HE.out],_,(congrArg (World.drewN · _) (World.drewN_drewN _ _ _)).trans (World.drewN_drewN _ _ _)⟩
  · have HE:=Lib.hid (sless_end (V:=V) hx hxy)
    by_cases hx1:x < n
    · have dx:decide ((x:Int) < (n:Int))=true:=decide_eq_true (by omega)
      have dy:decide ((y:Int) < (n:Int))=false:=decide_eq_false (by omega)
      have dz:((x:Int)==(n:Int))=false:=by rw [beq_eq_false_iff_ne];omega
      go_wp2_with fail
      go_ret
      exact ⟨false,rfl,by rw [HS.out,HE.out];simp;omega,q,rfl⟩
    · have dx:decide ((x:Int) < (n:Int))=false:=decide_eq_false (by omega)
      have dz:((x:Int)==(n:Int))=true:=by rw [beq_iff_eq];omega
      go_wp2_with fail
      go_ret
      exact ⟨_,rfl,by rw [HS.out,HE.out];simp;omega,q,rfl⟩
theorem refLess_is (A:Option Addr) (n c:Nat) (V:Nat→Int) (a b B:Nat) (w:World) (hn:n≤maxLen) (ha:a≤n) (hb:b≤n) (ho:Its w B A n V) (r:Bool) (hr:r=true↔SLess V n a b):
    Calls Tryz.prog 43 #[.slice A n c,.int .i64 (a:Int),.int .i64 (b:Int)] w fun e w'=>e=.returned (.bool r)∧Below w.heap.size w w':=by
 refine (refLess_any A n c V a b B w hn ha hb (fun q=>ho.below (below_drewN' (Below.refl _ _) q))).mono ?_
 rintro e w' ⟨r',rfl,hr',q,rfl⟩
 refine ⟨?_,below_drewN' (Below.refl _ _) q⟩
 have:r'=r:=by
  rcases r with _ | _ <;> rcases r' with _ | _
  · rfl
  · exact absurd (hr.2 (hr'.1 rfl)) (by simp)
  · exact absurd (hr'.2 (hr.1 rfl)) (by simp)
  · rfl
 rw [this]
def RightS (V:Nat→Int) (n:Nat) (al:Int):Prop:=(0≤al∧al≤4194304∧n≤4194304)∧∀i,i < n→0≤V i∧V i < al
end Go.Proofs.YtcidobpbepeakaaGreat
namespace Go.Proofs.YtcidobpbepeakaaGreat
open Go.RowKit
def IsOrd (V:Nat→Int) (n p:Nat) (s:Nat→Nat):Prop:=(∀i,i < p→s i < p)∧∀i j,i < j→j < p→SLess V n (s i) (s j)
def putAt (s:Nat→Nat) (p at_:Nat):Nat→Nat:=fun j=>if at_ < j then s (j - 1) else if j=at_ then p else s j
theorem IsOrd.put {V:Nat→Int} {n p at_:Nat} {s:Nat→Nat} (h:IsOrd V n p s) (hp:p < n) (hat:at_≤p) (h1:∀j,j < at_→SLess V n (s j) p) (h2:at_ < p→¬SLess V n (s at_) p):IsOrd V n (p+1) (putAt s p at_):=by
 have h3:∀j,at_≤j→j < p→SLess V n p (s j):=fun j hj hjp=>by
  have hsa:=h.1 at_ (by omega)
  have h4:SLess V n p (s at_):=(sless_or (by omega) (by omega) (by omega)).resolve_right (h2 (by omega))
  by_cases e:j=at_
  · rw [e];exact h4
  · exact sless_trans h4 (h.2 at_ j (by omega) hjp)
 refine ⟨fun i hi=>?_,fun i j hij hj=>?_⟩
 · unfold putAt
   split
   · have:=h.1 (i - 1) (by omega)
     omega
   · split
     · omega
     · have:=h.1 i (by omega)
       omega
 · unfold putAt
   split
   · rw [if_pos (by omega)]
     exact h.2 _ _ (by omega) (by omega)
   · split
     · rw [if_pos (by omega)]
       exact h3 _ (by omega) (by omega)
     · split
       · by_cases e:i < j - 1
         · exact h.2 _ _ e (by omega)
         · have hji:j - 1=i:=by omega
           omega
       · split
         · exact h1 _ (by omega)
         · exact h.2 _ _ hij (by omega)
def insF (s:Nat→Nat) (p i:Nat):Nat→Int:=fun j=>if i < j then ((s (j - 1):Nat):Int) else if j=p then 0 else ((s j:Nat):Int)
theorem insF_start (s:Nat→Nat) (p:Nat):icells (fun i=>((s i:Nat):Int)) p++[.int .i64 0]=icells (insF s p p) (p+1):=by
 rw [icells_snoc]
 congr 1
 · refine icells_congr fun j hj=>?_
   unfold insF
   rw [if_neg (by omega),if_neg (by omega)]
 · unfold insF
   rw [if_neg (by omega),if_pos rfl]
theorem insF_step (s:Nat→Nat) {p i:Nat} (_hi:i < p):icells (fun j=>if j=i+1 then ((s i:Nat):Int) else insF s p (i+1) j) (p+1)=icells (insF s p i) (p+1):=by
 refine icells_congr fun j hj=>?_
 show (if j=i+1 then ((s i:Nat):Int) else insF s p (i+1) j)=insF s p i j
 unfold insF
 by_cases e:j=i+1
 · rw [if_pos e,if_pos (by omega),show j - 1=i by omega]
 · rw [if_neg e]
   by_cases h1:i+1 < j
   · rw [if_pos h1,if_pos (by omega)]
   · rw [if_neg h1,if_neg (show ¬i < j by omega)]
theorem insF_at (s:Nat→Nat) {p i:Nat} (hi:i < p):insF s p (i+1) i=((s i:Nat):Int):=by
 unfold insF
 rw [if_neg (by omega),if_neg (by omega)]
theorem insF_end (s:Nat→Nat) {p at_:Nat} (hat:at_≤p):icells (fun j=>if j=at_ then (p:Int) else insF s p at_ j) (p+1)=icells (fun j=>((putAt s p at_ j:Nat):Int)) (p+1):=by
 refine icells_congr fun j hj=>?_
 show (if j=at_ then (p:Int) else insF s p at_ j)=((putAt s p at_ j:Nat):Int)
 unfold insF putAt
 by_cases e:j=at_
 · rw [if_pos e,if_neg (by omega),if_pos e]
 · rw [if_neg e]
   by_cases h1:at_ < j
   · rw [if_pos h1,if_pos h1]
   · rw [if_neg h1,if_neg h1,if_neg (by omega),if_neg e]
theorem refArrayS_any (A:Option Addr) (n c:Nat) (V:Nat→Int) (w:World) (hn:n≤4194303) (ho:Its w w.heap.size A n V):
    Calls Tryz.prog 24 #[.slice A n c] w fun e w'=>∃(u:Value) (s:Nat→Nat),e=.returned u∧IsSA V n s∧w'.ownsRow w.heap.size 3 1 u n (icells (fun i=>((s i:Nat):Int)) n)∧Below w.heap.size w w':=by
 have HO:=Lib.hid ho
 have HLs:Hid (∀(W:World) (a b:Nat) (r:Bool),Below w.heap.size w W→a≤n→b≤n→(r=true↔SLess V n a b)→Hid (Calls Tryz.prog 43 #[.slice A n c,.int .i64 (a:Int),.int .i64 (b:Int)] W fun e w'=>e=.returned (.bool r)∧Below W.heap.size W w')):=Lib.hid fun W a b r hW ha hb hr=>Lib.hid (refLess_is A n c V a b w.heap.size W (by unfold maxLen;omega) ha hb (ho.below hW) r hr)
 clear ho
 go_enter Tryz.func24,Tryz.ntmps24
 go_wp2_with fail
 go_loopw [3,9] (fun u v wr=>∃(p:Nat) (s:Nat→Nat),p≤n∧v=.int .i64 (p:Int)∧Hid (IsOrd V n p s)∧Hid (wr.ownsRow w.heap.size 3 1 u p (icells (fun i=>((s i:Nat):Int)) p))∧Below w.heap.size w wr) (fun _ v _=>n - (intOf v).toNat)
 case atStart=>exact ⟨0,fun _=>0,Nat.zero_le _,rfl,Lib.hid ⟨fun i hi=>absurd hi (Nat.not_lt_zero i),fun i j _ hj=>absurd hj (Nat.not_lt_zero j)⟩,Lib.hid (World.ownsRow_nil w _ _ _),Below.refl _ _⟩
 case round=>
  obtain ⟨p,s,hp,rfl,HOrd,hrow,hb⟩:=hrel
  have hbs:=hb.size
  by_cases hlt:p < n
  · have hlti:(p:Int) < (n:Int):=by omega
    obtain ⟨O,co,hO⟩:∃O co,u3=.slice O p co:=by
     rcases hrow.out.2 with ⟨e,h0⟩ | ⟨g',cap,cur,e,_⟩
     · exact ⟨none,0,by rw [e,h0]⟩
     · exact ⟨_,cap,e⟩
    subst hO
    have hco:=owns_room hrow.out
    have hcol:=hco.1
    have hcom:co≤9223372036854775807:=by have:=hco.2;unfold maxLen at this;omega
    clear hco
    go_wp2_with fail
    go_loopw [5] (fun v wy=>∃at_:Nat,at_≤p∧v=.int .i64 (at_:Int)∧Hid (∀j,j < at_→SLess V n (s j) p)∧Below wr.heap.size wr wy) (fun v _=>p - (intOf v).toNat)
    case atStart=>exact ⟨0,Nat.zero_le _,rfl,Lib.hid (fun j hj=>absurd hj (Nat.not_lt_zero j)),Below.refl _ _⟩
    case round=>
     rename World=>wy
     obtain ⟨at_,hat,rfl,hall,hby⟩:=hrel
     have hBy:=hb.trans (hby.mono hbs)
     have hrowy:=Lib.hid (ownsRow_keep hrow.out hby)
     by_cases hls:at_ < p∧SLess V n (s at_) p
     · obtain ⟨hap,hls⟩:=hls
       have hapi:(at_:Int) < (p:Int):=by omega
       have dap:decide ((at_:Int) < (p:Int))=true:=decide_eq_true hapi
       obtain ⟨g,c',e,_,_,_,_⟩:=owns_some hrow.out (by omega)
       cases e
       have hsa:=HOrd.out.1 at_ hap
       have hcell:wy.cell? ⟨g,at_,none⟩=some (.int .i64 ((s at_:Nat):Int)):=(hrowy.out.cellAt at_ (by omega)).trans (icells_at _ _ _ hap)
       have HL:=HLs.out wy (s at_) p true hBy (by omega) (by omega) ⟨fun _=>hls,fun _=>rfl⟩
       have HS:=Lib.hid hls
       clear hls hsa
       generalize s at_=sv at hcell HL
       go_wp2_with (go_at_call 43;(with_reducible refine HL.out.mono ?_);rintro e wz ⟨rfl,hbz⟩)
       go_roundw
       case rel=>exact ⟨at_+1,by omega,by go_num,Lib.hid (fun j hj=>by
        by_cases e:j < at_
        · exact hall.out j e
        · obtain rfl:j=at_:=by omega
          exact HS.out),hby.trans (hbz.mono hby.size)⟩
       case measure=>simp [intOf];omega
     · have hdone:Hid (at_ < p→¬SLess V n (s at_) p):=Lib.hid (fun h1 h2=>hls ⟨h1,h2⟩)
       have hpm:p≤4194304:=by omega
       rcases Nat.lt_or_eq_of_le hat with hap | hap
       · have hapi:(at_:Int) < (p:Int):=by omega
         have dap:decide ((at_:Int) < (p:Int))=true:=decide_eq_true hapi
         obtain ⟨g,c',e,_,_,_,_⟩:=owns_some hrow.out (by omega)
         cases e
         have hsa:=HOrd.out.1 at_ hap
         have hcell:wy.cell? ⟨g,at_,none⟩=some (.int .i64 ((s at_:Nat):Int)):=(hrowy.out.cellAt at_ (by omega)).trans (icells_at _ _ _ hap)
         have HL:=HLs.out wy (s at_) p false hBy (by omega) (by omega) ⟨fun e=>(by cases e),fun h=>absurd h (hdone.out hap)⟩
         clear hls hsa
         generalize s at_=sv at hcell HL
         go_wp2_with (first
          | (go_at_call 43;(with_reducible refine HL.out.mono ?_);rintro e wz ⟨rfl,hbz⟩;have hBz:=hBy.trans (hbz.mono hBy.size);have hrowz:=Lib.hid (ownsRow_keep hrowy.out hbz);have hsz:=hBz.size)
          | (at_builtin;refine step_append_int rfl (.tmp 27) (.tmp 28) rfl rfl hrowz.out 0 rfl hsz hpm ?_;intro v4 w4 hown4 hb4;rw [insF_start] at hown4;obtain ⟨g4,c4,rfl,hg4,hl4,hc4,hm4⟩:=owns_some hown4.out (Nat.succ_pos p)))
         clear hbz HL hcell dap hapi
         have hB4:=hBz.trans hb4
         have hcm4:c4≤9223372036854775807:=by unfold maxLen at hm4;omega
         have HOwn4:=hown4
         clear hm4 hrowz hBz hb4 hsz hown4
         rename World=>w4
         go_loopw [6] (fun v wz=>∃i:Nat,at_≤i∧i≤p∧v=.int .i64 (i:Int)∧Hid (wz.ownsRow w.heap.size 3 1 (.slice (some ⟨g4,0,none⟩) (p+1) c4) (p+1) (icells (insF s p i) (p+1)))∧Below w.heap.size w wz) (fun v _=>(intOf v).toNat)
         case atStart=>exact ⟨p,hat,Nat.le_refl _,rfl,HOwn4,hB4⟩
         case round=>
          rename World=>wz
          obtain ⟨i,hi1,hi2,rfl,hrz,hbz⟩:=hrel
          by_cases hia:at_ < i
          · obtain ⟨i',rfl⟩:∃i',i=i'+1:=⟨i - 1,by omega⟩
            have hia2:(at_:Int) < ((i':Int)+1):=by omega
            have hc1:wz.cell? ⟨g4,i',none⟩=some (.int .i64 ((s i':Nat):Int)):=(hrz.out.cellAt i' (by omega)).trans ((icells_at _ _ _ (by omega)).trans (by rw [insF_at s (by omega)]))
            have hc2:wz.cell? ⟨g4,i'+1,none⟩=some (.int .i64 (insF s p (i'+1) (i'+1))):=(hrz.out.cellAt (i'+1) (by omega)).trans (icells_at _ _ _ (by omega))
            have hf2:=owns_free hrz.out (i'+1)
            have hlt1:(i':Int) < (p:Int)+1:=by omega
            have hlt2:(i':Int)+1 < (p:Int)+1:=by omega
            have hput:=owns_put hrz.out (i'+1) (.int .i64 ((s i':Nat):Int))
            rw [icells_put,insF_step s (show i' < p by omega)] at hput
            have HPut:=Lib.hid hput
            have hbp:Below w.heap.size w (wz.setCell ⟨g4,i'+1,none⟩ (.int .i64 ((s i':Nat):Int))):=hbz.setCell (p:=⟨g4,i'+1,none⟩) hg4 _
            have HBp:=Lib.hid hbp
            clear hput hbp
            go_wp2_with fail
            go_roundw
            case rel=>exact ⟨i',by omega,by omega,by trivial,HPut,HBp.out⟩
            case measure=>simp [intOf]
          · obtain rfl:i=at_:=by omega
            have hia2:decide ((i:Int) < (i:Int))=false:=decide_eq_false (by omega)
            have hc2:wz.cell? ⟨g4,i,none⟩=some (.int .i64 (insF s p i i)):=(hrz.out.cellAt i (by omega)).trans (icells_at _ _ _ (by omega))
            have hf2:=owns_free hrz.out i
            have hlt2:(i:Int) < (p:Int)+1:=by omega
            have hput:=owns_put hrz.out i (.int .i64 (p:Int))
            rw [icells_put,insF_end s hi2] at hput
            have HPut:=Lib.hid hput
            have hbp:Below w.heap.size w (wz.setCell ⟨g4,i,none⟩ (.int .i64 (p:Int))):=hbz.setCell (p:=⟨g4,i,none⟩) hg4 _
            have HBp:=Lib.hid hbp
            clear hput hbp
            go_wp2_with fail
            go_roundw
            case rel=>exact ⟨p+1,putAt s p i,by omega,by go_num,Lib.hid (HOrd.out.put hlt hi2 hall.out hdone.out),HPut,HBp.out⟩
            case measure=>simp [intOf];omega
       · have dap:decide ((at_:Int) < (p:Int))=false:=decide_eq_false (by omega)
         have hnl:¬(at_:Int) < (p:Int):=by omega
         have hnl2:¬at_ < p:=by omega
         have dap2:decide (at_ < p)=false:=decide_eq_false hnl2
         have hBz:=hBy
         have hrowz:=hrowy
         have hsz:=hBz.size
         clear hls hap
         go_wp2_with (at_builtin;refine step_append_int rfl (.tmp 27) (.tmp 28) rfl rfl hrowz.out 0 rfl hsz hpm ?_;intro v4 w4 hown4 hb4;rw [insF_start] at hown4;obtain ⟨g4,c4,rfl,hg4,hl4,hc4,hm4⟩:=owns_some hown4.out (Nat.succ_pos p))
         clear dap dap2 hnl hnl2
         have hB4:=hBz.trans hb4
         have hcm4:c4≤9223372036854775807:=by unfold maxLen at hm4;omega
         have HOwn4:=hown4
         clear hm4 hrowz hBz hb4 hsz hown4
         rename World=>w4
         go_loopw [6] (fun v wz=>∃i:Nat,at_≤i∧i≤p∧v=.int .i64 (i:Int)∧Hid (wz.ownsRow w.heap.size 3 1 (.slice (some ⟨g4,0,none⟩) (p+1) c4) (p+1) (icells (insF s p i) (p+1)))∧Below w.heap.size w wz) (fun v _=>(intOf v).toNat)
         case atStart=>exact ⟨p,hat,Nat.le_refl _,rfl,HOwn4,hB4⟩
         case round=>
          rename World=>wz
          obtain ⟨i,hi1,hi2,rfl,hrz,hbz⟩:=hrel
          by_cases hia:at_ < i
          · obtain ⟨i',rfl⟩:∃i',i=i'+1:=⟨i - 1,by omega⟩
            have hia2:(at_:Int) < ((i':Int)+1):=by omega
            have hc1:wz.cell? ⟨g4,i',none⟩=some (.int .i64 ((s i':Nat):Int)):=(hrz.out.cellAt i' (by omega)).trans ((icells_at _ _ _ (by omega)).trans (by rw [insF_at s (by omega)]))
            have hc2:wz.cell? ⟨g4,i'+1,none⟩=some (.int .i64 (insF s p (i'+1) (i'+1))):=(hrz.out.cellAt (i'+1) (by omega)).trans (icells_at _ _ _ (by omega))
            have hf2:=owns_free hrz.out (i'+1)
            have hlt1:(i':Int) < (p:Int)+1:=by omega
            have hlt2:(i':Int)+1 < (p:Int)+1:=by omega
            have hput:=owns_put hrz.out (i'+1) (.int .i64 ((s i':Nat):Int))
            rw [icells_put,insF_step s (show i' < p by omega)] at hput
            have HPut:=Lib.hid hput
            have hbp:Below w.heap.size w (wz.setCell ⟨g4,i'+1,none⟩ (.int .i64 ((s i':Nat):Int))):=hbz.setCell (p:=⟨g4,i'+1,none⟩) hg4 _
            have HBp:=Lib.hid hbp
            clear hput hbp
            go_wp2_with fail
            go_roundw
            case rel=>exact ⟨i',by omega,by omega,by trivial,HPut,HBp.out⟩
            case measure=>simp [intOf]
          · obtain rfl:i=at_:=by omega
            have hia2:decide ((i:Int) < (i:Int))=false:=decide_eq_false (by omega)
            have hc2:wz.cell? ⟨g4,i,none⟩=some (.int .i64 (insF s p i i)):=(hrz.out.cellAt i (by omega)).trans (icells_at _ _ _ (by omega))
            have hf2:=owns_free hrz.out i
            have hlt2:(i:Int) < (p:Int)+1:=by omega
            have hput:=owns_put hrz.out i (.int .i64 (p:Int))
            rw [icells_put,insF_end s hi2] at hput
            have HPut:=Lib.hid hput
            have hbp:Below w.heap.size w (wz.setCell ⟨g4,i,none⟩ (.int .i64 (p:Int))):=hbz.setCell (p:=⟨g4,i,none⟩) hg4 _
            have HBp:=Lib.hid hbp
            clear hput hbp
            go_wp2_with fail
            go_roundw
            case rel=>exact ⟨p+1,putAt s p i,by omega,by go_num,Lib.hid (HOrd.out.put hlt hi2 hall.out hdone.out),HPut,HBp.out⟩
            case measure=>simp [intOf];omega
  · obtain rfl:p=n:=by omega
    go_wp2_with fail
    go_ret
    exact ⟨_,s,rfl,HOrd.out,hrow.out,hb⟩
end Go.Proofs.YtcidobpbepeakaaGreat
namespace Go.Proofs.YtcidobpbepeakaaGreat
open Go.RowKit
end Go.Proofs.YtcidobpbepeakaaGreat

namespace Go.Proofs.YtcidobpbepeakaaGreat
open Go.RowKit
end Go.Proofs.YtcidobpbepeakaaGreat
namespace Go.Proofs.YtcidobpbepeakaaGreat
open Go.RowKit
def ofList (l:List Nat):Nat→Nat:=fun k=>l.getD k 0
theorem bys_lit (l:List Nat) (hl:∀x∈l,x < 256) (w:World) (fz:Nat×Nat):Bys (w.alloc (.cells (l.map fun (x:Nat)=>Value.int .u8 (x:Int)).toArray 5 fz)) (w.heap.size+1) (some ⟨w.heap.size,0,none⟩) l.length (ofList l):=fun k hk=>by
 refine ⟨⟨w.heap.size,0,none⟩,rfl,Nat.lt_succ_self _,?_,?_⟩
 · have e:(⟨w.heap.size,0,none⟩:Addr).add k=⟨w.heap.size,k,none⟩:=by unfold Addr.add;split <;> simp_all
   rw [e,World.cell?_alloc_mark]
   simp [ofList,hk]
 · unfold ofList
   rw [List.getD_eq_getElem?_getD,List.getElem?_eq_getElem hk]
   exact hl _ (List.getElem_mem _)
theorem conv_lit (w:World) (C:Array Value) (n:Nat):(convert 23 23 (.slice (some ⟨w.heap.size,0,none⟩) n n)).run Tryz.prog (w.alloc (.cells C 5))=.ok (.slice (some ⟨w.heap.size,0,none⟩) n n) (w.alloc (.cells C 5 (C.size,C.size+1))):=
 Lib.run_convert_bytes_const w 23 5 C n n Tryz.underlying23 Tryz.underlying5
theorem conv_lit1 (w:World) (o:Obj) (C:Array Value) (n:Nat):(convert 23 23 (.slice (some ⟨w.heap.size+1,0,none⟩) n n)).run Tryz.prog ((w.alloc o).alloc (.cells C 5))=.ok (.slice (some ⟨w.heap.size+1,0,none⟩) n n) ((w.alloc o).alloc (.cells C 5 (C.size,C.size+1))):=
 Joins.run_convert_bytes_const_at (w.alloc o) 23 5 C n n (w.heap.size+1) (size_alloc w o).symm Tryz.underlying23 Tryz.underlying5
end Go.Proofs.YtcidobpbepeakaaGreat

namespace Go.Proofs.YtcidobpbepeakaaGreat
open Go.RowKit
theorem addr_add0 (ad:Addr):ad.add 0=ad:=by unfold Addr.add;split <;> simp_all
def ItsR (w:World) (A:Option Addr) (n c:Nat) (V:Nat→Int):Prop:=(A=none→n=0∧c=0)∧n≤c∧c≤maxLen∧Its w w.heap.size A n V
theorem ItsR.below {w w':World} {A:Option Addr} {n c:Nat} {V:Nat→Int} (h:ItsR w A n c V) (hb:Below w.heap.size w w'):ItsR w' A n c V:=⟨h.1,h.2.1,h.2.2.1,(h.2.2.2.below hb).mono_ hb.size⟩
theorem ItsR.of_own {w:World} {B n:Nat} {v:Value} {V:Nat→Int} (h:w.ownsRow B 3 1 v n (icells V n)) (hV:∀i,i < n→ -9223372036854775808≤V i∧V i≤9223372036854775807):∃A c,v=.slice A n c∧ItsR w A n c V:=by
 obtain ⟨A,c,rfl,hI⟩:=Its.of_own h hV
 have hr:=owns_room h
 refine ⟨A,c,rfl,fun e=>?_,hr.1,hr.2,hI⟩
 subst e
 rcases h.2 with ⟨e,h0⟩ | ⟨_,_,_,e,_⟩
 · cases e
   exact ⟨rfl,rfl⟩
 · cases e
def Fresh (w:World) (A:Option Addr) (n:Nat):Prop:=0 < n→∀ad,A=some ad→w.heap.size≤ad.block
def ArrayPost (w:World) (n:Nat) (V:Nat→Int) (al:Int) (e:Ending) (w':World):Prop:=
 (RightS V n al→∃(A':Option Addr) (c':Nat) (s:Nat→Nat),e=.returned (.tuple #[.slice A' n c',.int .i64 0])∧IsSA V n s∧Fresh w A' n∧ItsR w' A' n c' (fun i=>((s i:Nat):Int)))∧
 (¬RightS V n al→∃(A':Option Addr) (c':Nat),e=.returned (.tuple #[.slice A' 0 c',.int .i64 2]))∧Below w.heap.size w w'
def TurnPost (w:World) (n:Nat) (V:Nat→Int) (e:Ending) (w':World):Prop:=
 (IsPerm V n→∃(A':Option Addr) (c':Nat) (R:Nat→Int),e=.returned (.tuple #[.slice A' n c',.int .i64 0])∧Turns V R n∧ItsR w' A' n c' R)∧
 (¬IsPerm V n→∃(A':Option Addr) (c':Nat),e=.returned (.tuple #[.slice A' 0 c',.int .i64 2]))∧Below w.heap.size w w'
def litI (xs:List Int):Nat→Int:=fun k=>xs.getD k 0
theorem its_lit (w:World) (xs:List Int) (hx:∀x∈xs, -9223372036854775808≤x∧x≤9223372036854775807):Its (w.alloc (.cells (xs.map fun x=>Value.int .i64 x).toArray 3)) (w.alloc (.cells (xs.map fun x=>Value.int .i64 x).toArray 3)).heap.size (some ⟨w.heap.size,0,none⟩) xs.length (litI xs):=fun k hk=>by
 have hl:=lies_new w 3 (xs.map fun x=>Value.int .i64 x)
 have hm:xs.getD k 0∈xs:=by
  rw [List.getD_eq_getElem?_getD,List.getElem?_eq_getElem hk]
  exact List.getElem_mem _
 obtain ⟨h1,h2⟩:=hx _ hm
 refine ⟨⟨w.heap.size,0,none⟩,rfl,by rw [size_alloc];exact Nat.lt_succ_self _,?_,h1,h2⟩
 show _=some (Value.int IntKind.i64 (xs.getD k 0))
 rw [Addr.add_mid,Nat.zero_add,hl.cell,List.getElem?_map,List.getD_eq_getElem?_getD,List.getElem?_eq_getElem hk]
 rfl
end Go.Proofs.YtcidobpbepeakaaGreat
