/- Texts of ours, joined: BstHalf. -/
import Derived.Test.YtcidobpbepeakaaGreatB31
import Derived.Test.YtcidobpbepeakaaGreatB37
set_option maxRecDepth 1000000
set_option maxHeartbeats 6400000
namespace Go.Proofs.YtcidobpbepeakaaGreat
open Go.RowKit
open Pl (cnt)
structure Lvs (w:World) (B g gl cl n W:Nat) (V:Nat→Int):Prop where
 head:∃v,Lies w g 163 [.slice (some ⟨gl,0,none⟩) W cl,v]
 cap:W≤cl∧cl≤maxLen
 row:∀k,k < W→∃(gv gw:Nat) (av:Value) (ws:List Nat),w.cell? ⟨gl,k,none⟩=some (.iface 116 (.pointer (some ⟨gv,0,none⟩)))∧Vc w B gv gw av n ws (levBit V n W k)
 lt:gl < w.heap.size
theorem or_pow {a s:Nat} (h:a*2^(s+1) < 4194304) (hs:2^s < 4194304):bits .or .i64 ((a*2^(s+1):Nat):Int) ((2^s:Nat):Int)=((a*2^(s+1)+2^s:Nat):Int):=by
 have hor:=Nat.two_pow_add_eq_or_of_lt (i:=s+1) (b:=2^s) (by rw [Nat.pow_succ];have:0 < 2^s:=Nat.two_pow_pos s;omega) a
 rw [Nat.mul_comm] at hor
 show IntKind.i64.wrap ((BitVec.ofInt 64 ((a*2^(s+1):Nat):Int) ||| BitVec.ofInt 64 ((2^s:Nat):Int)).toNat:Int)=_
 rw [BitVec.toNat_or,ofInt_n _ (by omega),ofInt_n _ (by omega),←hor]
 rw [IntWalk.i64_in _ (by omega)]
theorem meth_vec (p:Addr) (w:World):
    (method 351 116 (.pointer (some p)) "Zeros").run Tryz.prog w=.ok (146,.pointer (some p)) w∧
    (method 351 116 (.pointer (some p)) "Rank").run Tryz.prog w=.ok (111,.pointer (some p)) w∧
    (method 351 116 (.pointer (some p)) "Len").run Tryz.prog w=.ok (99,.pointer (some p)) w∧
    (nilAhead 351 116 (.pointer (some p)) "Zeros").run Tryz.prog w=.ok (some false) w:=⟨by kernel_rfl,by kernel_rfl,by kernel_rfl,by kernel_rfl⟩
section
variable {w w':World} {B g gl cl n W:Nat} {V:Nat→Int}
theorem bsHalf_zero (h:Lvs w B g gl cl n W V) (_hn:n≤4194303) (_hW:W≤22) (x:Pt) (hx:x.lv < W) (ha:x.a≤n) (hb:x.b≤n):Calls Tryz.prog 154 #[.pointer (some ⟨g,0,none⟩),ptV x,.int .i64 0] w fun e w'=>e=.returned (ptV ⟨x.lv+1,x.le,dnB (levBit V n W x.lv) n 0 x.a,dnB (levBit V n W x.lv) n 0 x.b⟩)∧Below w.heap.size w w':=by
 obtain ⟨v,hl⟩:=h.head
 have hc0:w.cell? ⟨g,0,none⟩=some (.slice (some ⟨gl,0,none⟩) W cl):=hl.cell 0
 have lg:=hl.lt
 have lgl:=h.lt
 obtain ⟨gv,gw,av,ws,hcell,hvc⟩:=h.row x.lv hx
 have hcap:=h.cap
 have hclm:cl≤9223372036854775807:=by unfold maxLen at hcap;omega
 have HV:=Lib.hid hvc
 rw [dnB_zero,dnB_zero]
 have HZ:Hid (∀(w':World),Below w.heap.size w w'→∀i,i≤n→Calls Tryz.prog 146 #[.pointer (some ⟨gv,0,none⟩),.int .i64 (i:Int)] w' fun e w''=>e=.returned (.int .i64 ((cnt (fun j=>!levBit V n W x.lv j) i:Nat):Int))∧w'=w''):=Lib.hid fun w' hb i hi=>by
  have h2:=zeros_any (hvc.keep hb) (i:Int)
  rw [show Pl.clamp n (i:Int)=i by unfold Pl.clamp;omega] at h2
  exact h2
 have HM:=Lib.hid (meth_vec ⟨gv,0,none⟩)
 generalize levBit V n W x.lv=f at HZ
 unfold ptV
 obtain ⟨l,e,a,b⟩:=x
 dsimp only at*
 have hlW:(l:Int) < (W:Int):=by omega
 have hlw:IntKind.i64.wrap ((l:Int)+1)=((l+1:Nat):Int):=by rw [IntWalk.i64_in _ (by omega)];omega
 obtain ⟨l',hl'⟩:∃l',l+1=l':=⟨_,rfl⟩
 rw [hl'] at hlw ⊢
 have HZa:Hid (∀w',Below w.heap.size w w'→Calls Tryz.prog 146 #[.pointer (some ⟨gv,0,none⟩),.int .i64 (a:Int)] w' fun e w''=>e=.returned (.int .i64 ((cnt (fun j=>!f j) a:Nat):Int))∧w'=w''):=Lib.hid fun w' h=>HZ.out w' h a ha
 have HZb:Hid (∀w',Below w.heap.size w w'→Calls Tryz.prog 146 #[.pointer (some ⟨gv,0,none⟩),.int .i64 (b:Int)] w' fun e w''=>e=.returned (.int .i64 ((cnt (fun j=>!f j) b:Nat):Int))∧w'=w''):=Lib.hid fun w' h=>HZ.out w' h b hb
 generalize cnt (fun j=>!f j) a=a' at HZa ⊢
 generalize cnt (fun j=>!f j) b=b' at HZb ⊢
 clear h hl hvc hcap HV hl' HZ
 go_enter Tryz.func154,Tryz.ntmps154
 go_upto_region 1 with (fail)
 have HL1:Hid (Lies ((w.alloc (.cells #[.int .i64 (l:Int),.int .i64 e,.int .i64 (a:Int),.int .i64 (b:Int)] 167)).alloc (.cells #[.int .i64 0,.int .i64 0,.int .i64 0,.int .i64 0] 167)) w.heap.size 167 [.int .i64 (l:Int),.int .i64 e,.int .i64 (a:Int),.int .i64 (b:Int)]):=Lib.hid ((lies_new w 167 [.int .i64 (l:Int),.int .i64 e,.int .i64 (a:Int),.int .i64 (b:Int)]).alloc _)
 have HL2:Hid (Lies ((w.alloc (.cells #[.int .i64 (l:Int),.int .i64 e,.int .i64 (a:Int),.int .i64 (b:Int)] 167)).alloc (.cells #[.int .i64 0,.int .i64 0,.int .i64 0,.int .i64 0] 167)) (w.heap.size+1) 167 [.int .i64 0,.int .i64 0,.int .i64 0,.int .i64 0]):=Lib.hid (by
  have h:=lies_new (w.alloc (.cells #[.int .i64 (l:Int),.int .i64 e,.int .i64 (a:Int),.int .i64 (b:Int)] 167)) 167 [.int .i64 0,.int .i64 0,.int .i64 0,.int .i64 0]
  rw [size_alloc] at h
  exact h)
 have HB2:Hid (Below w.heap.size w ((w.alloc (.cells #[.int .i64 (l:Int),.int .i64 e,.int .i64 (a:Int),.int .i64 (b:Int)] 167)).alloc (.cells #[.int .i64 0,.int .i64 0,.int .i64 0,.int .i64 0] 167))):=Lib.hid (((Below.refl _ _).alloc (Nat.le_refl _) _).alloc (by rw [size_alloc];omega) _)
 go_cut [7] (fun s wx=>s=.iface 116 (.pointer (some ⟨gv,0,none⟩))∧Below w.heap.size w wx∧Lies wx w.heap.size 167 [.int .i64 (l:Int),.int .i64 e,.int .i64 (a:Int),.int .i64 (b:Int)]∧Lies wx (w.heap.size+1) 167 [.int .i64 0,.int .i64 0,.int .i64 0,.int .i64 0])
 case first=>
  go_wp2_with fail
  go_region
  all_goals
   go_wp2_with fail
   go_meet
   exact ⟨rfl,below_drewN' HB2.out 1,HL1.out.drewN 1,HL2.out.drewN 1⟩
 case rest=>
  obtain ⟨rfl,hbc,l1,l2⟩:=hcut
  obtain ⟨b1,hb1⟩:∃b1,w.heap.size=b1:=⟨_,rfl⟩
  obtain ⟨b2,hb2⟩:∃b2,b1+1=b2:=⟨_,rfl⟩
  have HB3:=Lib.hid hbc
  rw [hb1] at l1 l2
  rw [hb2] at l2
  have hbd0:=below_drew' hbc
  have hMz:=(HM.out wc.drew).1
  clear HL1 HL2 HB2 hcell hlW hc0
  have q1:=l2.cell 0
  have q2:=l2.cell 1
  have q3:=l2.cell 2
  have q4:=l2.cell 3
  have f1:=l2.free 0
  have f2:=l2.free 1
  have f3:=l2.free 2
  have f4:=l2.free 3
  have H1:=Lib.hid l1
  have H2:=Lib.hid l2
  have hne:b1≠b2:=by omega
  have hle12:b1≤b2:=by omega
  have hlt1:=l1.lt
  have hlt2:=l2.lt
  have HZ1:=Lib.hid (HZa.out wc.drew hbd0)
  have HZ2:=Lib.hid (HZb.out wc.drew hbd0)
  clear HZa HZb
  clear hbc l1 l2
  have HBl:=Lib.hid hb1
  rw [hb1,hb2]
  clear hb2 hb1
  go_upto_region 3 with (fail)
  go_cut [] (fun wx=>Lies wx b2 167 [.int .i64 (l':Int),.int .i64 e,.int .i64 (a':Int),.int .i64 (b':Int)]∧Below w.heap.size w wx)
  case first=>
   have HS1:Hid (((((((wc.setCell ⟨b2,0,none⟩ (.int .i64 (l':Int))).setCell ⟨b2,1,none⟩ (.int .i64 e)).setCell ⟨b2,2,none⟩ (.int .i64 (a':Int))).setCell ⟨b2,3,none⟩ (.int .i64 (b':Int))).drew.cell? ⟨b1,0,none⟩=some (.int .i64 (l:Int))∧((((wc.setCell ⟨b2,0,none⟩ (.int .i64 (l':Int))).setCell ⟨b2,1,none⟩ (.int .i64 e)).setCell ⟨b2,2,none⟩ (.int .i64 (a':Int))).setCell ⟨b2,3,none⟩ (.int .i64 (b':Int))).drew.cell? ⟨b1,1,none⟩=some (.int .i64 e)∧((((wc.setCell ⟨b2,0,none⟩ (.int .i64 (l':Int))).setCell ⟨b2,1,none⟩ (.int .i64 e)).setCell ⟨b2,2,none⟩ (.int .i64 (a':Int))).setCell ⟨b2,3,none⟩ (.int .i64 (b':Int))).drew.cell? ⟨b1,2,none⟩=some (.int .i64 (a:Int))∧((((wc.setCell ⟨b2,0,none⟩ (.int .i64 (l':Int))).setCell ⟨b2,1,none⟩ (.int .i64 e)).setCell ⟨b2,2,none⟩ (.int .i64 (a':Int))).setCell ⟨b2,3,none⟩ (.int .i64 (b':Int))).drew.cell? ⟨b1,3,none⟩=some (.int .i64 (b:Int)))∧Below b1 w ((((wc.setCell ⟨b2,0,none⟩ (.int .i64 (l':Int))).setCell ⟨b2,1,none⟩ (.int .i64 e)).setCell ⟨b2,2,none⟩ (.int .i64 (a':Int))).setCell ⟨b2,3,none⟩ (.int .i64 (b':Int))).drew)∧Lies ((((wc.setCell ⟨b2,0,none⟩ (.int .i64 (l':Int))).setCell ⟨b2,1,none⟩ (.int .i64 e)).setCell ⟨b2,2,none⟩ (.int .i64 (a':Int))).setCell ⟨b2,3,none⟩ (.int .i64 (b':Int))).drew b2 167 [.int .i64 (l':Int),.int .i64 e,.int .i64 (a':Int),.int .i64 (b':Int)]):=Lib.hid (by
    have X:=(((H1.out.far (p:=⟨b2,0,none⟩) hne (.int .i64 (l':Int))).far (p:=⟨b2,1,none⟩) hne (.int .i64 e)).far (p:=⟨b2,2,none⟩) hne (.int .i64 (a':Int))).far (p:=⟨b2,3,none⟩) hne (.int .i64 (b':Int))
    have hb:=hle12
    exact ⟨⟨⟨X.cell 0,X.cell 1,X.cell 2,X.cell 3⟩,below_drew' ((((((HBl.out▸HB3.out:Below b1 w wc)).setCell (p:=⟨b2,0,none⟩) hb _).setCell (p:=⟨b2,1,none⟩) hb _).setCell (p:=⟨b2,2,none⟩) hb _).setCell (p:=⟨b2,3,none⟩) hb _)⟩,((((H2.out.put 0 _).put 1 _).put 2 _).put 3 _).drew⟩)
   go_region_held3 (fun w'=>(w'.cell? ⟨b1,0,none⟩=some (.int .i64 (l:Int))∧w'.cell? ⟨b1,1,none⟩=some (.int .i64 e)∧w'.cell? ⟨b1,2,none⟩=some (.int .i64 (a:Int))∧w'.cell? ⟨b1,3,none⟩=some (.int .i64 (b:Int)))∧Below b1 w w')
    ((first
      | exact ⟨⟨H1.out.cell 0,H1.out.cell 1,H1.out.cell 2,H1.out.cell 3⟩,HBl.out▸hbd0⟩
      | exact HS1.out.1))
    (first
      | (go_at_call 146;(with_reducible refine HZ1.out.mono ?_);rintro e1 x1 ⟨rfl,rfl⟩)
      | (go_at_call 146;(with_reducible refine HZ2.out.mono ?_);rintro e1 x1 ⟨rfl,rfl⟩))
   all_goals
    go_wp2_with fail
    go_meet
    exact ⟨HS1.out.2,HBl.out▸HS1.out.1.2⟩
  case rest=>
   obtain ⟨h1,h2⟩:=hcut
   have y1:wc.cell? ⟨b2,0,none⟩=some (.int .i64 (l':Int)):=h1.cell 0
   have y2:wc.cell? ⟨b2,1,none⟩=some (.int .i64 e):=h1.cell 1
   have y3:wc.cell? ⟨b2,2,none⟩=some (.int .i64 (a':Int)):=h1.cell 2
   have y4:wc.cell? ⟨b2,3,none⟩=some (.int .i64 (b':Int)):=h1.cell 3
   clear q1 q2 q3 q4 f1 f2 f3 f4 hbd0 hMz hlw
   go_wp2_with fail
   refine bodyPost_ret (v:=.agg #[.int .i64 (l':Int),.int .i64 e,.int .i64 (a':Int),.int .i64 (b':Int)]) (by simp [results,Tryz.results154,go_sem,y1,y2,y3,y4]) rfl ?_
   exact ⟨rfl,h2⟩
end
end Go.Proofs.YtcidobpbepeakaaGreat
namespace Go.Proofs.YtcidobpbepeakaaGreat
open Go.RowKit
open Pl (cnt)
section
variable {w w':World} {B g gl cl n W:Nat} {V:Nat→Int}
theorem bsHalf_one (h:Lvs w B g gl cl n W V) (hn:n≤4194303) (hW:W≤22) (x:Pt) (q:Nat) (hq:x.le=((q*2^(W - x.lv):Nat):Int)) (hql:q*2^(W - x.lv) < 4194304) (hx:x.lv < W) (ha:x.a≤n) (hb:x.b≤n):Calls Tryz.prog 154 #[.pointer (some ⟨g,0,none⟩),ptV x,.int .i64 1] w fun e w'=>e=.returned (ptV ⟨x.lv+1,x.le+2^(W - 1 - x.lv),dnB (levBit V n W x.lv) n 1 x.a,dnB (levBit V n W x.lv) n 1 x.b⟩)∧Below w.heap.size w w':=by
 obtain ⟨v,hl⟩:=h.head
 have hc0:w.cell? ⟨g,0,none⟩=some (.slice (some ⟨gl,0,none⟩) W cl):=hl.cell 0
 have HC0:=Lib.hid hc0
 have lg:=hl.lt
 have lgl:=h.lt
 obtain ⟨gv,gw,av,ws,hcell,hvc⟩:=h.row x.lv hx
 have hcap:=h.cap
 have hclm:cl≤9223372036854775807:=by unfold maxLen at hcap;omega
 have HV:=Lib.hid hvc
 rw [dnB_one,dnB_one]
 have HZ:Hid (∀(w':World),Below w.heap.size w w'→∀i,i≤n→Calls Tryz.prog 146 #[.pointer (some ⟨gv,0,none⟩),.int .i64 (i:Int)] w' fun e w''=>e=.returned (.int .i64 ((cnt (fun j=>!levBit V n W x.lv j) i:Nat):Int))∧w'=w''):=Lib.hid fun w' hb i hi=>by
  have h2:=zeros_any (hvc.keep hb) (i:Int)
  rw [show Pl.clamp n (i:Int)=i by unfold Pl.clamp;omega] at h2
  exact h2
 have HR:Hid (∀(w':World),Below w.heap.size w w'→∀i,i≤n→Calls Tryz.prog 111 #[.pointer (some ⟨gv,0,none⟩),.int .i64 (i:Int)] w' fun e w''=>e=.returned (.int .i64 ((cnt (levBit V n W x.lv) i:Nat):Int))∧w'=w''):=Lib.hid fun w' hb i hi=>by
  have h2:=rank_any (hvc.keep hb) (i:Int)
  rw [show Pl.clamp n (i:Int)=i by unfold Pl.clamp;omega] at h2
  exact h2
 have HLn:Hid (∀(w':World),Below w.heap.size w w'→Calls Tryz.prog 99 #[.pointer (some ⟨gv,0,none⟩)] w' fun e w''=>e=.returned (.int .i64 (n:Int))∧w'=w''):=Lib.hid fun w' hb=>vlen_any (hvc.keep hb)
 have HM:=Lib.hid (meth_vec ⟨gv,0,none⟩)
 unfold ptV
 obtain ⟨l,e,a,b⟩:=x
 dsimp only at*
 have hlW:(l:Int) < (W:Int):=by omega
 have hlw:IntKind.i64.wrap ((l:Int)+1)=((l+1:Nat):Int):=by rw [IntWalk.i64_in _ (by omega)];omega
 obtain ⟨l',hl'⟩:∃l',l+1=l':=⟨_,rfl⟩
 rw [hl'] at hlw ⊢
 obtain ⟨s,hs⟩:∃s,W - 1 - l=s:=⟨_,rfl⟩
 have hs1:W - l=s+1:=by omega
 rw [hs]
 rw [hs1] at hq hql
 have hsp:2^s < 4194304:=Nat.lt_of_le_of_lt (Nat.pow_le_pow_right (by decide) (show s≤21 by omega)) (by decide)
 have hor:=or_pow hql hsp
 rw [←hq] at hor
 obtain ⟨p,hp⟩:∃p:Nat,2^s=p:=⟨_,rfl⟩
 have hpi:(2:Int)^s=(p:Int):=by rw [←hp];exact (Int.natCast_pow 2 s).symm
 rw [hpi]
 have hor2:bits .or .i64 e (p:Int)=e+(p:Int):=by
  rw [hp] at hor
  rw [hor,hq]
  omega
 have hsi:(W:Int) - 1 - (l:Int)=(s:Int):=by omega
 have hpl:p < 4194304:=by omega
 have hs22:s≤21:=by omega
 have HSh:Hid ((2:Int)^s=(p:Int)):=Lib.hid hpi
 obtain ⟨e',he'⟩:∃e',e+(p:Int)=e':=⟨_,rfl⟩
 rw [he'] at hor2 ⊢
 have hle0:cnt (levBit V n W l) a≤n:=Nat.le_trans (Pl.cnt_le _ _) ha
 have hle1:cnt (levBit V n W l) b≤n:=Nat.le_trans (Pl.cnt_le _ _) hb
 have hle2:cnt (fun j=>!levBit V n W l j) n≤n:=Pl.cnt_le _ _
 have HZa:Hid (∀w',Below w.heap.size w w'→Calls Tryz.prog 146 #[.pointer (some ⟨gv,0,none⟩),.int .i64 (n:Int)] w' fun e w''=>e=.returned (.int .i64 ((cnt (fun j=>!levBit V n W l j) n:Nat):Int))∧w'=w''):=Lib.hid fun w' h=>HZ.out w' h n (Nat.le_refl _)
 have HRa:Hid (∀w',Below w.heap.size w w'→Calls Tryz.prog 111 #[.pointer (some ⟨gv,0,none⟩),.int .i64 (a:Int)] w' fun e w''=>e=.returned (.int .i64 ((cnt (levBit V n W l) a:Nat):Int))∧w'=w''):=Lib.hid fun w' h=>HR.out w' h a ha
 have HRb:Hid (∀w',Below w.heap.size w w'→Calls Tryz.prog 111 #[.pointer (some ⟨gv,0,none⟩),.int .i64 (b:Int)] w' fun e w''=>e=.returned (.int .i64 ((cnt (levBit V n W l) b:Nat):Int))∧w'=w''):=Lib.hid fun w' h=>HR.out w' h b hb
 generalize cnt (levBit V n W l) a=ra at HRa hle0 ⊢
 generalize cnt (levBit V n W l) b=rb at HRb hle1 ⊢
 generalize cnt (fun j=>!levBit V n W l j) n=z at HZa hle2 ⊢
 obtain ⟨a',ha'⟩:∃a',z+ra=a':=⟨_,rfl⟩
 obtain ⟨b',hb'⟩:∃b',z+rb=b':=⟨_,rfl⟩
 rw [ha',hb']
 have hza:IntKind.i64.wrap ((z:Int)+(ra:Int))=(a':Int):=by rw [IntWalk.i64_in _ (by omega)];omega
 have hzb:IntKind.i64.wrap ((z:Int)+(rb:Int))=(b':Int):=by rw [IntWalk.i64_in _ (by omega)];omega
 have HZz:Hid (z+ra=a'∧z+rb=b'):=Lib.hid ⟨ha',hb'⟩
 clear hq hql hor hp hpi hs hs1 he' ha' hb' HR hsp
 clear h hl hvc hcap HV hl' HZ
 go_enter Tryz.func154,Tryz.ntmps154
 go_upto_region 1 with (fail)
 have HL1:Hid (Lies ((w.alloc (.cells #[.int .i64 (l:Int),.int .i64 e,.int .i64 (a:Int),.int .i64 (b:Int)] 167)).alloc (.cells #[.int .i64 0,.int .i64 0,.int .i64 0,.int .i64 0] 167)) w.heap.size 167 [.int .i64 (l:Int),.int .i64 e,.int .i64 (a:Int),.int .i64 (b:Int)]):=Lib.hid ((lies_new w 167 [.int .i64 (l:Int),.int .i64 e,.int .i64 (a:Int),.int .i64 (b:Int)]).alloc _)
 have HL2:Hid (Lies ((w.alloc (.cells #[.int .i64 (l:Int),.int .i64 e,.int .i64 (a:Int),.int .i64 (b:Int)] 167)).alloc (.cells #[.int .i64 0,.int .i64 0,.int .i64 0,.int .i64 0] 167)) (w.heap.size+1) 167 [.int .i64 0,.int .i64 0,.int .i64 0,.int .i64 0]):=Lib.hid (by
  have h:=lies_new (w.alloc (.cells #[.int .i64 (l:Int),.int .i64 e,.int .i64 (a:Int),.int .i64 (b:Int)] 167)) 167 [.int .i64 0,.int .i64 0,.int .i64 0,.int .i64 0]
  rw [size_alloc] at h
  exact h)
 have HB2:Hid (Below w.heap.size w ((w.alloc (.cells #[.int .i64 (l:Int),.int .i64 e,.int .i64 (a:Int),.int .i64 (b:Int)] 167)).alloc (.cells #[.int .i64 0,.int .i64 0,.int .i64 0,.int .i64 0] 167))):=Lib.hid (((Below.refl _ _).alloc (Nat.le_refl _) _).alloc (by rw [size_alloc];omega) _)
 go_cut [7] (fun s wx=>s=.iface 116 (.pointer (some ⟨gv,0,none⟩))∧Below w.heap.size w wx∧Lies wx w.heap.size 167 [.int .i64 (l:Int),.int .i64 e,.int .i64 (a:Int),.int .i64 (b:Int)]∧Lies wx (w.heap.size+1) 167 [.int .i64 0,.int .i64 0,.int .i64 0,.int .i64 0])
 case first=>
  go_wp2_with fail
  go_region
  all_goals
   go_wp2_with fail
   go_meet
   exact ⟨rfl,below_drewN' HB2.out 1,HL1.out.drewN 1,HL2.out.drewN 1⟩
 case rest=>
  rename World=>wa
  obtain ⟨rfl,hbc,l1,l2⟩:=hcut
  obtain ⟨b1,hb1⟩:∃b1,w.heap.size=b1:=⟨_,rfl⟩
  obtain ⟨b2,hb2⟩:∃b2,b1+1=b2:=⟨_,rfl⟩
  have HB3:=Lib.hid hbc
  rw [hb1] at l1 l2
  rw [hb2] at l2
  have hbd0:=below_drew' hbc
  have hM1:=(HM.out wa.drew).1
  have hM3:=(HM.out wa.drew).2.2.1
  have hM4:=(HM.out wa.drew).2.2.2
  clear HL1 HL2 HB2 hcell hlW hc0
  have H1:=Lib.hid l1
  have H2:=Lib.hid l2
  have hne:b1≠b2:=by omega
  have hle12:b1≤b2:=by omega
  have HZ1:=Lib.hid (HZa.out wa.drew hbd0)
  have HN1:=Lib.hid (HLn.out wa.drew hbd0)
  clear HZa HLn
  clear hbc l1 l2
  have HBl:=Lib.hid hb1
  rw [hb1,hb2]
  clear hb2 hb1
  go_upto_region 4 with (fail)
  go_cut [8] (fun s wx=>s=.int .i64 (z:Int)∧wx=wa.drewN 1)
  case first=>
   go_region_held3 (fun w'=>w'=wa.drew)
    ((first
      | rfl))
    (first
      | (go_at_call 99;(with_reducible refine HN1.out.mono ?_);rintro e1 x1 ⟨rfl,rfl⟩)
      | (go_at_call 146;(with_reducible refine HZ1.out.mono ?_);rintro e1 x1 ⟨rfl,rfl⟩))
   all_goals
    go_wp2_with fail
    go_meet
    exact ⟨rfl,rfl⟩
  case rest=>
   obtain ⟨rfl,hw5⟩:=hcut
   rename World=>W5
   have hW5:=hw5.symm
   have H3:Hid (Lies W5 b1 167 [.int .i64 (l:Int),.int .i64 e,.int .i64 (a:Int),.int .i64 (b:Int)]):=Lib.hid (hW5▸H1.out.drewN 1)
   have H4:Hid (Lies W5 b2 167 [.int .i64 0,.int .i64 0,.int .i64 0,.int .i64 0]):=Lib.hid (hW5▸H2.out.drewN 1)
   have HB5:Hid (Below w.heap.size w W5):=Lib.hid (hW5▸below_drewN' HB3.out 1)
   have hc0:W5.cell? ⟨g,0,none⟩=some (.slice (some ⟨gl,0,none⟩) W cl):=(HB5.out.cell (p:=⟨g,0,none⟩) lg).trans HC0.out
   have k1:W5.cell? ⟨b1,0,none⟩=some (.int .i64 (l:Int)):=H3.out.cell 0
   have k2:W5.cell? ⟨b1,1,none⟩=some (.int .i64 e):=H3.out.cell 1
   clear hw5 hW5 hM1 hM3 hM4 H1 H2 HB3 HZ1 HN1 hbd0
   go_upto_region 5 with (fail)
   go_cut [9] (fun s wx=>s=.int .i64 e'∧wx=W5.drewN 1)
   case first=>
    go_wp2_with fail
    go_region
    all_goals
     go_wp2_with fail
     go_meet
     exact ⟨by rw [HSh.out,IntWalk.wrap64_in _ (by omega),hor2],rfl⟩
   case rest=>
    rename World=>W6
    obtain ⟨rfl,hw6⟩:=hcut
    have hW6:=hw6.symm
    have H5:Hid (Lies W6 b1 167 [.int .i64 (l:Int),.int .i64 e,.int .i64 (a:Int),.int .i64 (b:Int)]):=Lib.hid (hW6▸H3.out.drewN 1)
    have H6:Hid (Lies W6 b2 167 [.int .i64 0,.int .i64 0,.int .i64 0,.int .i64 0]):=Lib.hid (hW6▸H4.out.drewN 1)
    have HB6:Hid (Below w.heap.size w W6):=Lib.hid (hW6▸below_drewN' HB5.out 1)
    have hbd0:=below_drew' HB6.out
    have hM2:=(HM.out W6.drew).2.1
    have q1:W6.cell? ⟨b2,0,none⟩=some (.int .i64 0):=H6.out.cell 0
    have q2:W6.cell? ⟨b2,1,none⟩=some (.int .i64 0):=H6.out.cell 1
    have q3:W6.cell? ⟨b2,2,none⟩=some (.int .i64 0):=H6.out.cell 2
    have q4:W6.cell? ⟨b2,3,none⟩=some (.int .i64 0):=H6.out.cell 3
    have f1:=H6.out.free 0
    have f2:=H6.out.free 1
    have f3:=H6.out.free 2
    have f4:=H6.out.free 3
    have HR1:=Lib.hid (HRa.out W6.drew hbd0)
    have HR2:=Lib.hid (HRb.out W6.drew hbd0)
    clear hc0 k1 k2 hw6 hW6 H3 H4 HB5 HRa HRb HM HSh hor2 hsi HC0
    go_upto_region 6 with (fail)
    go_cut [] (fun wx=>Lies wx b2 167 [.int .i64 (l':Int),.int .i64 e',.int .i64 (a':Int),.int .i64 (b':Int)]∧Below w.heap.size w wx)
    case first=>
     have HS1:Hid (((((((W6.setCell ⟨b2,0,none⟩ (.int .i64 (l':Int))).setCell ⟨b2,1,none⟩ (.int .i64 e')).setCell ⟨b2,2,none⟩ (.int .i64 (a':Int))).setCell ⟨b2,3,none⟩ (.int .i64 (b':Int))).drew.cell? ⟨b1,0,none⟩=some (.int .i64 (l:Int))∧((((W6.setCell ⟨b2,0,none⟩ (.int .i64 (l':Int))).setCell ⟨b2,1,none⟩ (.int .i64 e')).setCell ⟨b2,2,none⟩ (.int .i64 (a':Int))).setCell ⟨b2,3,none⟩ (.int .i64 (b':Int))).drew.cell? ⟨b1,1,none⟩=some (.int .i64 e)∧((((W6.setCell ⟨b2,0,none⟩ (.int .i64 (l':Int))).setCell ⟨b2,1,none⟩ (.int .i64 e')).setCell ⟨b2,2,none⟩ (.int .i64 (a':Int))).setCell ⟨b2,3,none⟩ (.int .i64 (b':Int))).drew.cell? ⟨b1,2,none⟩=some (.int .i64 (a:Int))∧((((W6.setCell ⟨b2,0,none⟩ (.int .i64 (l':Int))).setCell ⟨b2,1,none⟩ (.int .i64 e')).setCell ⟨b2,2,none⟩ (.int .i64 (a':Int))).setCell ⟨b2,3,none⟩ (.int .i64 (b':Int))).drew.cell? ⟨b1,3,none⟩=some (.int .i64 (b:Int)))∧Below b1 w ((((W6.setCell ⟨b2,0,none⟩ (.int .i64 (l':Int))).setCell ⟨b2,1,none⟩ (.int .i64 e')).setCell ⟨b2,2,none⟩ (.int .i64 (a':Int))).setCell ⟨b2,3,none⟩ (.int .i64 (b':Int))).drew)∧Lies ((((W6.setCell ⟨b2,0,none⟩ (.int .i64 (l':Int))).setCell ⟨b2,1,none⟩ (.int .i64 e')).setCell ⟨b2,2,none⟩ (.int .i64 (a':Int))).setCell ⟨b2,3,none⟩ (.int .i64 (b':Int))).drew b2 167 [.int .i64 (l':Int),.int .i64 e',.int .i64 (a':Int),.int .i64 (b':Int)]):=Lib.hid (by
      have X:=(((H5.out.far (p:=⟨b2,0,none⟩) hne (.int .i64 (l':Int))).far (p:=⟨b2,1,none⟩) hne (.int .i64 e')).far (p:=⟨b2,2,none⟩) hne (.int .i64 (a':Int))).far (p:=⟨b2,3,none⟩) hne (.int .i64 (b':Int))
      have hb:=hle12
      exact ⟨⟨⟨X.cell 0,X.cell 1,X.cell 2,X.cell 3⟩,below_drew' ((((((HBl.out▸HB6.out:Below b1 w W6)).setCell (p:=⟨b2,0,none⟩) hb _).setCell (p:=⟨b2,1,none⟩) hb _).setCell (p:=⟨b2,2,none⟩) hb _).setCell (p:=⟨b2,3,none⟩) hb _)⟩,((((H6.out.put 0 _).put 1 _).put 2 _).put 3 _).drew⟩)
     go_region_held3 (fun w'=>(w'.cell? ⟨b1,0,none⟩=some (.int .i64 (l:Int))∧w'.cell? ⟨b1,1,none⟩=some (.int .i64 e)∧w'.cell? ⟨b1,2,none⟩=some (.int .i64 (a:Int))∧w'.cell? ⟨b1,3,none⟩=some (.int .i64 (b:Int)))∧Below b1 w w')
      ((first
        | exact ⟨⟨H5.out.cell 0,H5.out.cell 1,H5.out.cell 2,H5.out.cell 3⟩,HBl.out▸hbd0⟩
        | exact HS1.out.1))
      (first
        | (go_at_call 111;(with_reducible refine HR1.out.mono ?_);rintro e1 x1 ⟨rfl,rfl⟩)
        | (go_at_call 111;(with_reducible refine HR2.out.mono ?_);rintro e1 x1 ⟨rfl,rfl⟩))
     all_goals
      go_wp2_with fail
      go_meet
      exact ⟨HS1.out.2,HBl.out▸HS1.out.1.2⟩
    case rest=>
     obtain ⟨h1,h2⟩:=hcut
     have y1:wc.cell? ⟨b2,0,none⟩=some (.int .i64 (l':Int)):=h1.cell 0
     have y2:wc.cell? ⟨b2,1,none⟩=some (.int .i64 e'):=h1.cell 1
     have y3:wc.cell? ⟨b2,2,none⟩=some (.int .i64 (a':Int)):=h1.cell 2
     have y4:wc.cell? ⟨b2,3,none⟩=some (.int .i64 (b':Int)):=h1.cell 3
     clear q1 q2 q3 q4 f1 f2 f3 f4 hbd0 hM2 hlw hza hzb
     go_wp2_with fail
     refine bodyPost_ret (v:=.agg #[.int .i64 (l':Int),.int .i64 e',.int .i64 (a':Int),.int .i64 (b':Int)]) (by simp [results,Tryz.results154,go_sem,y1,y2,y3,y4]) rfl ?_
     exact ⟨rfl,h2⟩
end
end Go.Proofs.YtcidobpbepeakaaGreat
