/- Texts of ours, joined: WavWalk. -/
import Derived.Test.YtcidobpbepeakaaGreatB27
import Derived.Test.YtcidobpbepeakaaGreatB02
import Derived.Test.YtcidobpbepeakaaGreatB18
import Derived.Deep.DeepCutAuto
set_option maxRecDepth 1000000
set_option maxHeartbeats 6400000
namespace Go.Proofs.YtcidobpbepeakaaGreat
open Pl (cnt cnt_succ cnt_congr cnt_mono cnt_le)
def dnB (f:Nat→Bool) (n:Nat) (c:Int) (i:Nat):Nat:=if c=0 then cnt (fun j=>!f j) i else cnt (fun j=>!f j) n+cnt f i
theorem dnB_zero (f:Nat→Bool) (n i:Nat):dnB f n 0 i=cnt (fun j=>!f j) i:=if_pos rfl
theorem dnB_one (f:Nat→Bool) (n i:Nat):dnB f n 1 i=cnt (fun j=>!f j) n+cnt f i:=if_neg (by decide)
theorem lev_zeros (V:Nat→Int) (n W k i:Nat):cnt (fun j=>!levBit V n W k j) i=aheadI (fun j=>bitZ (levRow V n W k j) (W - 1 - k)) i 0:=cnt_congr fun j _=>by
 unfold levBit
 rw [←decide_not]
 refine decide_eq_decide.2 ?_
 have:=bitZ_or (levRow V n W k j) (W - 1 - k)
 show ¬bitZ (levRow V n W k j) (W - 1 - k)=1↔bitZ (levRow V n W k j) (W - 1 - k)=0
 omega
theorem lev_ones (V:Nat→Int) (n W k i:Nat):cnt (levBit V n W k) i=aheadI (fun j=>bitZ (levRow V n W k j) (W - 1 - k)) i 1:=rfl
theorem dnB_is {V:Nat→Int} {n W k i:Nat} {c:Int} (hc:c=0∨c=1):dnB (levBit V n W k) n c i=down (levRow V n W k) n (W - 1 - k) c i:=by
 rcases hc with rfl | rfl
 · rw [dnB_zero,lev_zeros,down_zero]
 · rw [dnB_one,lev_zeros,lev_ones,down_one]
theorem at_down {V:Nat→Int} {n W k i:Nat} {x c:Int} (hi:i < n) (h:levRow V n W k i=x) (hc:bitZ x (W - 1 - k)=c):
    dnB (levBit V n W k) n c i < n∧levRow V n W (k+1) (dnB (levBit V n W k) n c i)=x:=by
 have hc2:c=0∨c=1:=by rw [←hc];exact bitZ_or _ _
 have hd:=down_hit hi (show bitZ (levRow V n W k i) (W - 1 - k)=c by rw [h,hc])
 have hle:=down_le (R:=levRow V n W k) (n:=n) (b:=W - 1 - k) hc2 (show i+1≤n from hi)
 rw [dnB_is hc2]
 exact ⟨by have:=hd.1;omega,hd.2.trans h⟩
theorem half_at {x:Int} {W k:Nat} (hk:k < W):x / 2^(W - (k+1))=2*(x / 2^(W - k))+bitZ x (W - 1 - k):=by
 have h:=half_bit x (W - 1 - k)
 rw [show W - 1 - k+1=W - k by omega] at h
 rw [show W - (k+1)=W - 1 - k by omega]
 exact h
theorem div_pow_zero {x:Int} {W:Nat} (h0:0≤x) (h1:x < 2^W):x / 2^W=0:=Int.ediv_eq_zero_of_lt h0 h1
theorem div_pow_le {x:Int} {W:Nat} (h0:0≤x):0≤x / 2^W∧x / 2^W≤x:=by
 have hp:(0:Int) < 2^W:=Int.pow_pos (by decide)
 exact ⟨Int.ediv_nonneg h0 (Int.le_of_lt hp),Int.ediv_le_self _ h0⟩
theorem Nar.step2 {V:Nat→Int} {n W k A B a b:Nat} {q:Int} (h:Nar V n W k A B q a b) (hk:k < W) (hAB:A≤B) {c:Int} (hc:c=0∨c=1):
    Nar V n W (k+1) A B (2*q+c) (dnB (levBit V n W k) n c a) (dnB (levBit V n W k) n c b):=by
 rw [dnB_is hc,dnB_is hc]
 exact h.step hk hAB hc
theorem Nar.to {V:Nat→Int} {n W k A B a b:Nat} {x c:Int} (h:Nar V n W k A B (x / 2^(W - k)) a b) (hk:k < W) (hAB:A≤B) (hc:bitZ x (W - 1 - k)=c):
    Nar V n W (k+1) A B (x / 2^(W - (k+1))) (dnB (levBit V n W k) n c a) (dnB (levBit V n W k) n c b):=by
 have h2:=h.step2 hk hAB (c:=c) (by rw [←hc];exact bitZ_or _ _)
 rw [half_at hk,hc]
 exact h2
theorem pow_up (q c:Int) (j:Nat) (h:0≤q∧q < 2^j) (hc:c=0∨c=1):0≤2*q+c∧2*q+c < 2^(j+1):=by
 rw [Int.pow_succ]
 omega
theorem clamp_part (V:Nat→Int) (a b:Int) (n:Nat):∀m,m≤n→partL V a b m=partL V ((Pl.clamp (Pl.clamp n b) a:Nat):Int) ((Pl.clamp n b:Nat):Int) m
 | 0,_=>rfl
 | m+1,h=>by
   have ih:=clamp_part V a b n m (by omega)
   have hiff:(a≤(m:Int)∧(m:Int) < b)↔(((Pl.clamp (Pl.clamp n b) a:Nat):Int)≤(m:Int)∧(m:Int) < ((Pl.clamp n b:Nat):Int)):=by
    unfold Pl.clamp
    omega
   by_cases g:a≤(m:Int)∧(m:Int) < b
   · rw [partL_hit g,partL_hit (hiff.1 g),ih]
   · rw [partL_miss g,partL_miss (fun h=>g (hiff.2 h)),ih]
theorem clamp_cnt (V:Nat→Int) (d a b:Int) (n:Nat):cntR V d a b n=cntR V d ((Pl.clamp (Pl.clamp n b) a:Nat):Int) ((Pl.clamp n b:Nat):Int) n:=by
 rw [←cntR_part,←cntR_part,←clamp_part V a b n n (Nat.le_refl _)]
theorem cntR_seg {V:Nat→Int} {d:Int} {A B n:Nat} (hAB:A≤B) (hB:B≤n):cntR V d (A:Int) (B:Int) n=seg (fun j=>decide (V j=d)) A B:=by
 rw [←cntR_part,countP_partL,seg_range (fun j=>decide (V j=d)) hAB hB]
theorem cntR_far {V:Nat→Int} {d a b:Int} {n:Nat} (h:∀i,i < n→V i≠d):cntR V d a b n=0:=Pl.cnt_zero fun j hj=>decide_eq_false fun g=>h j hj g.1
noncomputable def goI (V:Nat→Int) (n W:Nat) (x:Int) (a:Nat):Nat→Nat
 | 0=>a
 | k+1=>dnB (levBit V n W k) n (bitZ x (W - 1 - k)) (goI V n W x a k)
theorem goI_nar {V:Nat→Int} {n W A B:Nat} {x:Int} (hAB:A≤B) (hB:B≤n) (hV:∀i,i < n→0≤V i∧V i < 2^W) (h0:0≤x) (h1:x < 2^W):∀k,k≤W→Nar V n W k A B (x / 2^(W - k)) (goI V n W x A k) (goI V n W x B k)
 | 0,_=>by
   rw [Nat.sub_zero,div_pow_zero h0 h1]
   exact Nar.start hAB hB hV
 | k+1,hk=>(goI_nar hAB hB hV h0 h1 k (by omega)).to (by omega) hAB rfl
end Go.Proofs.YtcidobpbepeakaaGreat
namespace Go.Proofs.YtcidobpbepeakaaGreat
open Go.RowKit
open Pl (cnt cnt_mono cnt_le)
theorem widthN_22 {m:Nat} (h:m < 4194304):1≤widthN m∧widthN m≤22:=⟨widthN_pos m,widthN_pow 22 m (by omega) (by decide)⟩
theorem powI (W:Nat):(2:Int)^W=((2^W:Nat):Int):=by simp [Int.natCast_pow]
theorem rightW_room {V:Nat→Int} {n:Nat} {m:Nat} (h:RightW V n (m:Int)):∀i,i < n→0≤V i∧V i < 2^widthN m:=fun i hi=>by
 have h1:=h.2.2.2 i hi
 have h2:=lt_widthN m
 rw [powI]
 exact ⟨h1.1,by omega⟩
theorem pow_24 {W:Nat} (h:W≤22):(2:Int)^W≤4194304:=by
 rw [powI]
 have:=Nat.pow_le_pow_right (show 0 < 2 by decide) h
 omega
section
variable {w w':World} {B g gw n:Nat} {av:Value} {ws:List Nat} {f:Nat→Bool}
theorem noughts_any (h:Vc w B g gw av n ws f):Calls Tryz.prog 193 #[.pointer (some ⟨g,0,none⟩)] w fun e w'=>e=.returned (.int .i64 ((cnt (fun j=>!f j) n:Nat):Int))∧w=w':=by
 have HL:=Lib.hid (vlen_any h)
 have HO:=Lib.hid (vones_any h)
 have hn:=Pl.cnt_not f n
 have hf:=h.bits.few
 have HE:Hid ((n:Int) - ((cnt f n:Nat):Int)=((cnt (fun j=>!f j) n:Nat):Int)):=Lib.hid (by omega)
 have hle:=cnt_le f n
 clear h hn
 generalize cnt (fun j=>!f j) n=z at HE ⊢
 generalize cnt f n=m at HE HO hle
 go_enter Tryz.func193,Tryz.ntmps193
 go_wp2_with (first
  | (go_at_call 99;(with_reducible refine HL.out.mono ?_);rintro e w' ⟨rfl,rfl⟩)
  | (go_at_call 100;(with_reducible refine HO.out.mono ?_);rintro e w' ⟨rfl,rfl⟩))
 go_ret
 exact ⟨ret_i64 HE.out,rfl⟩
theorem down_any (h:Vc w B g gw av n ws f) (i:Nat) (c:Int) (hi:i≤n) (hc:c=0∨c=1):
    Calls Tryz.prog 183 #[.pointer (some ⟨g,0,none⟩),.int .i64 (i:Int),.int .i64 c] w fun e w'=>e=.returned (.int .i64 ((dnB f n c i:Nat):Int))∧w=w':=by
 have hZ:=zeros_any h (i:Int)
 have hR:=rank_any h (i:Int)
 rw [Pl.clamp_nat hi] at hZ hR
 have hf:=h.bits.few
 rcases hc with rfl | rfl
 · rw [dnB_zero]
   have HZ:=Lib.hid hZ
   clear h hZ hR
   go_enter Tryz.func183,Tryz.ntmps183
   go_wp2_with (go_at_call 146;(with_reducible refine HZ.out.mono ?_);rintro e w' ⟨rfl,rfl⟩)
   go_ret
   exact ⟨rfl,rfl⟩
 · rw [dnB_one]
   have HN:=Lib.hid (noughts_any h)
   have HR:=Lib.hid hR
   have h1:=cnt_le f i
   have h2:=cnt_le (fun j=>!f j) n
   clear h hZ hR
   generalize cnt (fun j=>!f j) n=z at HN h2 ⊢
   generalize cnt f i=y at HR h1 ⊢
   have e1:IntKind.i64.wrap ((z:Int)+(y:Int))=((z+y:Nat):Int):=by rw [IntWalk.i64_in _ (by omega)];omega
   have HE:=Lib.hid e1
   clear e1
   go_enter Tryz.func183,Tryz.ntmps183
   go_wp2_with (first
    | (go_at_call 193;(with_reducible refine HN.out.mono ?_);rintro e w' ⟨rfl,rfl⟩)
    | (go_at_call 111;(with_reducible refine HR.out.mono ?_);rintro e w' ⟨rfl,rfl⟩))
   go_ret
   exact ⟨ret_i64 (by omega),rfl⟩
end
structure Mx (w:World) (B g gl cl n:Nat) (V:Nat→Int) (m:Nat):Prop where
 head:Lies w g 134 [.int .i64 (n:Int),.slice (some ⟨gl,0,none⟩) (widthN m) cl]
 cap:widthN m≤cl∧cl≤maxLen
 row:∀k,k < widthN m→∃(gv gw:Nat) (av:Value) (ws:List Nat),w.cell? ⟨gl,k,none⟩=some (.pointer (some ⟨gv,0,none⟩))∧Vc w B gv gw av n ws (levBit V n (widthN m) k)
 lo:B≤g∧B≤gl∧gl < w.heap.size
 right:RightW V n (m:Int)
 sl:∀k gv,k < widthN m→w.cell? ⟨gl,k,none⟩=some (.pointer (some ⟨gv,0,none⟩))→∃(A:Option Addr) (q c:Nat),w.cell? ⟨gv,3,none⟩=some (.slice A q c)
def VcAt (B:Nat) (w:World) (v:Value) (n:Nat) (f:Nat→Bool):Prop:=∃(g gw:Nat) (av:Value) (ws:List Nat),v=.pointer (some ⟨g,0,none⟩)∧Vc w B g gw av n ws f
section
variable {w w':World} {B g gl cl n m:Nat} {V:Nat→Int}
theorem Mx.keepB (h:Mx w B g gl cl n V m) (hs:w.heap.size≤w'.heap.size) (hb:∀k,B≤k→k < w.heap.size→w'.heap[k]?=w.heap[k]?):Mx w' B g gl cl n V m:=
 ⟨h.head.same (hb g h.lo.1 h.head.lt),h.cap,fun k hk=>by
   obtain ⟨gv,gw,av,ws,h1,h2⟩:=h.row k hk
   exact ⟨gv,gw,av,ws,(cell_of_heap (hb gl h.lo.2.1 h.lo.2.2)).trans h1,h2.keepB hs hb⟩,⟨h.lo.1,h.lo.2.1,Nat.lt_of_lt_of_le h.lo.2.2 hs⟩,h.right,fun k gv hk hc=>by
   have hc2:w.cell? ⟨gl,k,none⟩=some (.pointer (some ⟨gv,0,none⟩)):=(cell_of_heap (hb gl h.lo.2.1 h.lo.2.2)).symm.trans hc
   obtain ⟨gv',gw,av,ws,h1,h2⟩:=h.row k hk
   rw [hc2] at h1
   injection h1 with h1
   injection h1 with h1
   injection h1 with h1
   injection h1 with h1
   subst h1
   obtain ⟨A,q,c,e⟩:=h.sl k gv hk hc2
   exact ⟨A,q,c,(cell_of_heap (hb gv h2.lo.1 h2.head.lt)).trans e⟩⟩
theorem Mx.keep (h:Mx w B g gl cl n V m) (hb:Below w.heap.size w w'):Mx w' B g gl cl n V m:=h.keepB hb.size fun k _ hk=>hb.block k hk
theorem Mx.c0 (h:Mx w B g gl cl n V m):w.cell? ⟨g,0,none⟩=some (.int .i64 (n:Int)):=h.head.cell 0
theorem Mx.c1 (h:Mx w B g gl cl n V m):w.cell? ⟨g,1,none⟩=some (.slice (some ⟨gl,0,none⟩) (widthN m) cl):=h.head.cell 1
theorem Mx.few (h:Mx w B g gl cl n V m):n≤4194304:=h.right.2.2.1
theorem Mx.most (h:Mx w B g gl cl n V m):m < 4194304:=by have:=h.right.2.1;omega
theorem Mx.w22 (h:Mx w B g gl cl n V m):1≤widthN m∧widthN m≤22:=widthN_22 h.most
theorem Mx.room (h:Mx w B g gl cl n V m):∀i,i < n→0≤V i∧V i < 2^widthN m:=rightW_room h.right
theorem wvLen_any (h:Mx w B g gl cl n V m):Calls Tryz.prog 105 #[.pointer (some ⟨g,0,none⟩)] w fun e w'=>e=.returned (.int .i64 (n:Int))∧w=w':=by
 have h1:=h.c0
 clear h
 go_enter Tryz.func105,Tryz.ntmps105
 go_wp2
 go_ret
 exact ⟨rfl,rfl⟩
theorem wvWithin_of (v:Value) (a b:Int) (w:World) (hL:Calls Tryz.prog 105 #[v] w fun e w'=>e=.returned (.int .i64 (n:Int))∧w=w'):
    Calls Tryz.prog 189 #[v,.int .i64 a,.int .i64 b] w fun e w'=>e=.returned (.tuple #[.int .i64 ((Pl.clamp (Pl.clamp n b) a:Nat):Int),.int .i64 ((Pl.clamp n b:Nat):Int)])∧w=w':=by
 have HL:=Lib.hid hL
 have e1:=Lib.hid (Pl.clamp_int n b)
 obtain ⟨q,hq⟩:∃q,Pl.clamp n b=q:=⟨_,rfl⟩
 rw [hq] at e1 ⊢
 have e2:=Lib.hid (Pl.clamp_int q a)
 obtain ⟨p,hp⟩:∃p,Pl.clamp q a=p:=⟨_,rfl⟩
 rw [hp] at e2 ⊢
 clear hL hq hp
 go_enter Tryz.func189,Tryz.ntmps189
 go_upto_region 1 with (fail)
 go_cut [2] from 2 to 12 (fun s wx=>s=.int .i64 (q:Int)∧wx=w)
 case first=>
  by_cases h1:(n:Int) < b
  · by_cases h2:0 < n
    all_goals
     go_wp2_with (go_at_call 105;(with_reducible refine HL.out.mono ?_);rintro e w' ⟨rfl,rfl⟩)
     go_meet
     exact ⟨by rw [←e1.out];first | done | (congr 1 <;> omega),rfl⟩
  · by_cases h2:0 < b
    all_goals
     go_wp2_with (go_at_call 105;(with_reducible refine HL.out.mono ?_);rintro e w' ⟨rfl,rfl⟩)
     go_meet
     exact ⟨by rw [←e1.out];first | done | (congr 1 <;> omega),rfl⟩
 case rest=>
 obtain ⟨rfl,rfl⟩:=hcut
 by_cases h1:(q:Int) < a
 · by_cases h2:0 < q
   all_goals
    go_wp2_with fail
    go_ret2
    exact ⟨by rw [←e2.out];first | done | (congr 3 <;> first | rfl | omega | (simp;omega) | simp),rfl⟩
 · by_cases h2:0 < a
   all_goals
    go_wp2_with fail
    go_ret2
    exact ⟨by rw [←e2.out];first | done | (congr 3 <;> first | rfl | omega | (simp;omega) | simp),rfl⟩
theorem wvWide_any (h:Mx w B g gl cl n V m) (c:Int) (r:Bool) (hr:r=true↔0≤c∧c < 2^widthN m):
    Calls Tryz.prog 170 #[.pointer (some ⟨g,0,none⟩),.int .i64 c] w fun e w'=>e=.returned (.bool r)∧w=w':=by
 have h1:=h.c1
 obtain ⟨hw1,hw2⟩:=h.w22
 have hcp:=h.cap
 have hcm:cl≤9223372036854775807:=by have:=hcp.2;unfold maxLen at this;omega
 obtain ⟨W,hW⟩:∃W,widthN m=W:=⟨_,rfl⟩
 rw [hW] at h1 hw1 hw2 hcp hr
 have hcl:=hcp.1
 have h64:W≤64:=by omega
 have e0:IntKind.u64.wrap (W:Int)=(W:Int):=IntWalk.u64_in _ (by omega)
 have eT:((W:Int)).toNat=W:=Int.toNat_natCast W
 have hlt:¬(W:Int) < 0:=by omega
 clear h hW hcp
 by_cases h0:0≤c
 · have g0:decide ((0:Int)≤c)=true:=decide_eq_true h0
   have hp:(0:Int) < 2^W:=Int.pow_pos (by decide)
   have hq:(c / 2^W==0)=r:=by
    rcases r with _ | _
    · rw [beq_eq_false_iff_ne]
      intro e
      have h2:c < 2^W:=by
       have:=Int.lt_ediv_add_one_mul_self c hp
       rw [e] at this
       omega
      have:=hr.2 ⟨h0,h2⟩
      cases this
    · rw [beq_iff_eq]
      exact Int.ediv_eq_zero_of_lt h0 (hr.1 rfl).2
   have HQ:=Lib.hid hq
   clear hr hp hq
   go_enter Tryz.func170,Tryz.ntmps170
   go_wp2
   go_ret
   exact ⟨by rw [←HQ.out];rfl,rfl⟩
 · have g0:decide ((0:Int)≤c)=false:=decide_eq_false h0
   obtain rfl:r=false:=Bool.eq_false_iff.2 fun e=>h0 (hr.1 e).1
   clear hr
   go_enter Tryz.func170,Tryz.ntmps170
   go_wp2
   go_ret
   exact ⟨rfl,rfl⟩
theorem and_bit {x:Int} {b:Nat} (h0:0≤x) (h1:x≤16777216):bits .and .i64 (x / 2^b) 1=bitZ x b:=by
 obtain ⟨y,rfl⟩:∃y:Nat,x=(y:Int):=⟨x.toNat,by omega⟩
 unfold bitZ
 rw [shr_u]
 have hy:y / 2^b≤16777216:=Nat.le_trans (Nat.div_le_self _ _) (by omega)
 generalize y / 2^b=u at hy
 show IntKind.i64.wrap ((BitVec.ofInt 64 (u:Int) &&& BitVec.ofInt 64 ((1:Nat):Int)).toNat:Int)=_
 rw [BitVec.toNat_and,ofInt_n u (by omega),ofInt_n 1 (by omega),Nat.and_one_is_mod]
 rw [IntWalk.i64_in _ (by omega)]
 omega
theorem wvBit_any (h:Mx w B g gl cl n V m) (c:Int) (k:Nat) (hk:k < widthN m) (h0:0≤c) (h1:c < 2^widthN m):
    Calls Tryz.prog 190 #[.pointer (some ⟨g,0,none⟩),.int .i64 c,.int .i64 (k:Int)] w fun e w'=>e=.returned (.int .i64 (bitZ c (widthN m - 1 - k)))∧w=w':=by
 have hc1:=h.c1
 obtain ⟨hw1,hw2⟩:=h.w22
 have hcp:=h.cap
 have hcm:cl≤9223372036854775807:=by have:=hcp.2;unfold maxLen at this;omega
 have hb:=and_bit (x:=c) (b:=widthN m - 1 - k) h0 (by have:=pow_24 hw2;omega)
 obtain ⟨W,hW⟩:∃W,widthN m=W:=⟨_,rfl⟩
 rw [hW] at hc1 hw1 hw2 hcp hb hk ⊢
 have hcl:=hcp.1
 have e1:IntKind.i64.wrap ((W:Int) - 1)=((W - 1:Nat):Int):=by rw [IntWalk.i64_in _ (by omega)];omega
 obtain ⟨s,hs⟩:∃s,W - 1 - k=s:=⟨_,rfl⟩
 have e2:IntKind.i64.wrap (((W - 1:Nat):Int) - (k:Int))=(s:Int):=by rw [IntWalk.i64_in _ (by omega)];omega
 have e3:IntKind.i64.wrap ((W:Int) - 1 - (k:Int))=(s:Int):=by rw [IntWalk.i64_in _ (by omega)];omega
 have h64:s≤64:=by omega
 have hlt:¬(s:Int) < 0:=by omega
 rw [hs] at hb ⊢
 have HB:=Lib.hid hb
 clear h hW hcp hb hs h0 h1 hk
 go_enter Tryz.func190,Tryz.ntmps190
 go_wp2
 go_ret
 exact ⟨by rw [←HB.out];rfl,rfl⟩
end
end Go.Proofs.YtcidobpbepeakaaGreat
namespace Go.Proofs.YtcidobpbepeakaaGreat
open Go.RowKit
open Pl (cnt cnt_mono cnt_le)
theorem or_bit {q c:Int} (h0:0≤q) (h1:q≤16777216) (hc:c=0∨c=1):bits .or .i64 (q*2) c=2*q+c:=by
 obtain ⟨a,rfl⟩:∃a:Nat,q=(a:Int):=⟨q.toNat,by omega⟩
 obtain ⟨b,rfl⟩:∃b:Nat,c=(b:Int):=⟨c.toNat,by omega⟩
 have e:((a:Int)*2)=((a*2:Nat):Int):=by omega
 have hor:2*a+b=2*a ||| b:=by
  have:=Nat.two_pow_add_eq_or_of_lt (i:=1) (show b < 2^1 by omega) a
  rwa [Nat.pow_one] at this
 rw [e]
 show IntKind.i64.wrap ((BitVec.ofInt 64 ((a*2:Nat):Int) ||| BitVec.ofInt 64 (b:Int)).toNat:Int)=_
 rw [BitVec.toNat_or,ofInt_n _ (by omega),ofInt_n b (by omega),Nat.mul_comm a 2,←hor]
 rw [IntWalk.i64_in _ (by omega)]
 omega
section
variable {w w':World} {B g gl cl n m:Nat} {V:Nat→Int}
theorem wvAt_in (h:Mx w B g gl cl n V m) (i:Nat) (hi:i < n):Calls Tryz.prog 158 #[.pointer (some ⟨g,0,none⟩),.int .i64 (i:Int)] w fun e w'=>e=.returned (.int .i64 (V i))∧w=w':=by
 have HL:=Lib.hid (wvLen_any h)
 have hc1:=h.c1
 have HH:=Lib.hid h
 obtain ⟨hw1,hw2⟩:=h.w22
 have hcp:=h.cap
 have hcm:cl≤9223372036854775807:=by have:=hcp.2;unfold maxLen at this;omega
 have hV:=h.room i hi
 have hf:=h.few
 have hp22:=pow_24 hw2
 obtain ⟨W,hW⟩:∃W,widthN m=W:=⟨_,rfl⟩
 have HW:=Lib.hid hW
 rw [hW] at hc1 hw1 hw2 hcp hV hp22
 have hcl:=hcp.1
 obtain ⟨x,hx⟩:∃x,V i=x:=⟨_,rfl⟩
 rw [hx] at hV ⊢
 have HX:Hid (0≤x∧x≤4194304∧x / 2^W=0):=Lib.hid ⟨hV.1,by omega,div_pow_zero hV.1 hV.2⟩
 have H0:Hid (levRow V n W 0 i=x∧(0:Int)=x / 2^(W - 0)):=Lib.hid ⟨hx,HX.out.2.2.symm⟩
 have g1:decide ((i:Int) < 0)=false:=decide_eq_false (by omega)
 have g2:decide ((n:Int)≤(i:Int))=false:=decide_eq_false (by omega)
 have g3:decide (n≤i)=false:=decide_eq_false (by omega)
 clear h hW hcp hV hx hp22
 go_enter Tryz.func158,Tryz.ntmps158
 go_wp2_with (go_at_call 105;(with_reducible refine HL.out.mono ?_);rintro e w' ⟨rfl,rfl⟩)
 go_loop [1,5,22] (fun s u v=>∃(k p:Nat) (q:Int),k≤W∧v=.int .i64 (k:Int)∧s=.int .i64 (p:Int)∧u=.int .i64 q∧p < n∧0≤q∧q≤4194304∧Hid (levRow V n W k p=x∧q=x / 2^(W - k))) (fun _ _ v=>W - (intOf v).toNat)
 case atStart=>exact ⟨0,i,0,Nat.zero_le _,rfl,rfl,rfl,hi,by omega,by omega,H0⟩
 case round=>
  clear H0
  obtain ⟨k,p,q,hk,rfl,rfl,rfl,hp,hq0,hq1,hr⟩:=hrel
  by_cases hlt:k < W
  · obtain ⟨gv,gw,av,ws,hcell,hvc⟩:=HH.out.row k (by rw [HW.out];exact hlt)
    rw [HW.out] at hvc
    have hA:=at_in hvc p hp
    obtain ⟨c,hc⟩:∃c,bitZ x (W - 1 - k)=c:=⟨_,rfl⟩
    have hc2:c=0∨c=1:=by rw [←hc];exact bitZ_or _ _
    have hD:=down_any hvc p c (Nat.le_of_lt hp) hc2
    obtain ⟨d1,d2⟩:=at_down hp hr.out.1 hc
    have hor:=or_bit hq0 (by omega) hc2
    have hhalf:=half_at (x:=x) hlt
    rw [hc,←hr.out.2] at hhalf
    have hxq:=div_pow_le (x:=x) (W:=W - (k+1)) HX.out.1
    rw [hhalf] at hxq
    have hx4:=HX.out.2.1
    have hb:levBit V n W k p=decide (c=1):=by
     unfold levBit
     rw [hr.out.1,hc]
    rw [hb] at hA
    obtain ⟨p2,hp2⟩:∃p2,dnB (levBit V n W k) n c p=p2:=⟨_,rfl⟩
    rw [hp2] at hD d1 d2
    obtain ⟨q2,hq2⟩:∃q2,2*q+c=q2:=⟨_,rfl⟩
    rw [hq2] at hor hhalf hxq
    have HR:Hid (levRow V n W (k+1) p2=x∧q2=x / 2^(W - (k+1))):=Lib.hid ⟨d2,hhalf.symm⟩
    have HD:=Lib.hid hD
    have hq2b:0≤q2∧q2≤4194304:=by omega
    clear hvc hhalf hD d2 hp2 hq2 hr hb hxq hx4 hc
    rcases hc2 with rfl | rfl
    · have HA:=Lib.hid hA
      clear hA
      go_wp2_with (first
       | (go_at_call 110;(with_reducible refine HA.out.mono ?_);rintro e w' ⟨rfl,rfl⟩)
       | (go_at_call 183;(with_reducible refine HD.out.mono ?_);rintro e w' ⟨rfl,rfl⟩))
      go_round
      case rel=>exact ⟨k+1,p2,q2,by omega,by go_num,rfl,rfl,d1,hq2b.1,hq2b.2,HR⟩
      case measure=>simp [intOf];omega
    · have HA:=Lib.hid hA
      clear hA
      go_wp2_with (first
       | (go_at_call 110;(with_reducible refine HA.out.mono ?_);rintro e w' ⟨rfl,rfl⟩)
       | (go_at_call 183;(with_reducible refine HD.out.mono ?_);rintro e w' ⟨rfl,rfl⟩))
      go_round
      case rel=>exact ⟨k+1,p2,q2,by omega,by go_num,rfl,rfl,d1,hq2b.1,hq2b.2,HR⟩
      case measure=>simp [intOf];omega
  · have hkW:k=W:=by omega
    have hge:¬(k:Int) < (W:Int):=by omega
    have e:=hr.out.2
    rw [hkW,Nat.sub_self,Int.pow_zero,Int.ediv_one] at e
    have HE:=Lib.hid e
    clear e hkW hr
    go_wp2_with fail
    go_ret
    exact ⟨ret_i64 HE.out,rfl⟩
theorem wvBehind_any (h:Mx w B g gl cl n V m) (c a b:Int) (h0:0≤c) (h1:c < 2^widthN m):
    Calls Tryz.prog 171 #[.pointer (some ⟨g,0,none⟩),.int .i64 c,.int .i64 a,.int .i64 b] w fun e w'=>
     e=.returned (.tuple #[.int .i64 ((goI V n (widthN m) c (Pl.clamp (Pl.clamp n b) a) (widthN m):Nat):Int),.int .i64 ((goI V n (widthN m) c (Pl.clamp n b) (widthN m):Nat):Int)])∧w=w':=by
 have HWi:=Lib.hid (wvWithin_of _ a b w (wvLen_any h))
 have hc1:=h.c1
 have HH:=Lib.hid h
 have HBt:=Lib.hid (fun (k:Nat) (hk:k < widthN m)=>wvBit_any h c k hk h0 h1)
 obtain ⟨hw1,hw2⟩:=h.w22
 have hcp:=h.cap
 have hcm:cl≤9223372036854775807:=by have:=hcp.2;unfold maxLen at this;omega
 have hf:=h.few
 have hBn:=Pl.clamp_le n b
 have hAB:=Pl.clamp_le (Pl.clamp n b) a
 generalize Pl.clamp (Pl.clamp n b) a=A0 at hAB HWi ⊢
 generalize Pl.clamp n b=B0 at hAB hBn HWi ⊢
 have HGo:=Lib.hid (goI_nar hAB hBn h.room h0 h1)
 obtain ⟨W,hW⟩:∃W,widthN m=W:=⟨_,rfl⟩
 have HW:=Lib.hid hW
 rw [hW] at hc1 hw1 hw2 hcp HGo HBt ⊢
 have hcl:=hcp.1
 clear h hW hcp h0 h1
 go_enter Tryz.func171,Tryz.ntmps171
 go_wp2_with (go_at_call 189;(with_reducible refine HWi.out.mono ?_);rintro e w' ⟨rfl,rfl⟩)
 go_loop [2,3,25] (fun s u v=>∃(k p q:Nat),k≤W∧v=.int .i64 (k:Int)∧s=.int .i64 (p:Int)∧u=.int .i64 (q:Int)∧p≤q∧q≤n∧Hid (p=goI V n W c A0 k∧q=goI V n W c B0 k)) (fun _ _ v=>W - (intOf v).toNat)
 case atStart=>exact ⟨0,A0,B0,Nat.zero_le _,rfl,rfl,rfl,hAB,hBn,Lib.hid ⟨rfl,rfl⟩⟩
 case round=>
  obtain ⟨k,p,q,hk,rfl,rfl,rfl,hpq,hqn,hr⟩:=hrel
  by_cases hlt:k < W
  · obtain ⟨gv,gw,av,ws,hcell,hvc⟩:=HH.out.row k (by rw [HW.out];exact hlt)
    rw [HW.out] at hvc
    have HB:=Lib.hid (HBt.out k hlt)
    have hn1:=HGo.out (k+1) hlt
    obtain ⟨d,hd⟩:∃d,bitZ c (W - 1 - k)=d:=⟨_,rfl⟩
    have hd2:d=0∨d=1:=by rw [←hd];exact bitZ_or _ _
    rw [hd] at HB
    have hD1:=down_any hvc p d (by omega) hd2
    have hD2:=down_any hvc q d hqn hd2
    have e1:dnB (levBit V n W k) n d p=goI V n W c A0 (k+1):=by rw [hr.out.1,←hd];rfl
    have e2:dnB (levBit V n W k) n d q=goI V n W c B0 (k+1):=by rw [hr.out.2,←hd];rfl
    have hle:=hn1.le
    have hrm:=hn1.room
    rw [←e1,←e2] at hle
    rw [←e2] at hrm
    have HR:Hid (dnB (levBit V n W k) n d p=goI V n W c A0 (k+1)∧dnB (levBit V n W k) n d q=goI V n W c B0 (k+1)):=Lib.hid ⟨e1,e2⟩
    have HD1:=Lib.hid hD1
    have HD2:=Lib.hid hD2
    clear hvc hD1 hD2 e1 e2 hr hn1 hd
    generalize dnB (levBit V n W k) n d p=p2 at HR HD1 hle
    generalize dnB (levBit V n W k) n d q=q2 at HR HD2 hle hrm
    go_wp2_with (first
     | (go_at_call 190;(with_reducible refine HB.out.mono ?_);rintro e w' ⟨rfl,rfl⟩)
     | (go_at_call 183;(with_reducible refine HD1.out.mono ?_);rintro e w' ⟨rfl,rfl⟩)
     | (go_at_call 183;(with_reducible refine HD2.out.mono ?_);rintro e w' ⟨rfl,rfl⟩))
    go_round
    case rel=>exact ⟨k+1,p2,q2,by omega,by go_num,rfl,rfl,hle,hrm,HR⟩
    case measure=>simp [intOf];omega
  · have hkW:k=W:=by omega
    have hge:¬(k:Int) < (W:Int):=by omega
    rw [hkW] at hr
    obtain ⟨rfl,rfl⟩:=hr.out
    clear hkW hr
    go_wp2_with fail
    go_ret2
    exact ⟨rfl,rfl⟩
theorem wvRank_any (h:Mx w B g gl cl n V m) (c i:Int):Calls Tryz.prog 115 #[.pointer (some ⟨g,0,none⟩),.int .i64 c,.int .i64 i] w fun e w'=>e=.returned (.int .i64 ((cntR V c 0 i n:Nat):Int))∧w=w':=by
 by_cases hwd:0≤c∧c < 2^widthN m
 · have HWd:=Lib.hid (wvWide_any h c true ⟨fun _=>hwd,fun _=>rfl⟩)
   have HBe:=Lib.hid (wvBehind_any h c 0 i hwd.1 hwd.2)
   have hBn:=Pl.clamp_le n i
   have hAB:=Pl.clamp_le (Pl.clamp n i) 0
   have hN:=goI_nar hAB hBn h.room hwd.1 hwd.2 (widthN m) (Nat.le_refl _)
   have hf:=h.few
   have hle:=hN.le
   have hrm:=hN.room
   have hlast:=hN.size
   rw [Nat.sub_self,Int.pow_zero,Int.ediv_one] at hN
   have hlast:=hN.last
   rw [←cntR_seg hAB hBn,←clamp_cnt] at hlast
   have HE:=Lib.hid hlast
   clear hN hlast hBn hAB h hwd
   generalize goI V n (widthN m) c (Pl.clamp (Pl.clamp n i) 0) (widthN m)=p at HBe HE hle
   generalize goI V n (widthN m) c (Pl.clamp n i) (widthN m)=q at HBe HE hle hrm
   go_enter Tryz.func115,Tryz.ntmps115
   go_wp2_with (first
    | (go_at_call 170;(with_reducible refine HWd.out.mono ?_);rintro e w' ⟨rfl,rfl⟩)
    | (go_at_call 171;(with_reducible refine HBe.out.mono ?_);rintro e w' ⟨rfl,rfl⟩))
   go_ret
   exact ⟨ret_i64 (by rw [←HE.out];omega),rfl⟩
 · have HWd:=Lib.hid (wvWide_any h c false ⟨fun e=>(by cases e),fun e=>absurd e hwd⟩)
   have HE:Hid (cntR V c 0 i n=0):=Lib.hid (cntR_far fun j hj e=>hwd (by rw [←e];exact h.room j hj))
   clear h hwd
   go_enter Tryz.func115,Tryz.ntmps115
   go_wp2_with (go_at_call 170;(with_reducible refine HWd.out.mono ?_);rintro e w' ⟨rfl,rfl⟩)
   go_ret
   exact ⟨by rw [HE.out];rfl,rfl⟩
end
end Go.Proofs.YtcidobpbepeakaaGreat
namespace Go.Proofs.YtcidobpbepeakaaGreat
open Go.RowKit
open Pl (cnt cnt_mono cnt_le)
section
variable {w0:World} {B g gl cl n m:Nat} {V:Nat→Int}
end
end Go.Proofs.YtcidobpbepeakaaGreat
