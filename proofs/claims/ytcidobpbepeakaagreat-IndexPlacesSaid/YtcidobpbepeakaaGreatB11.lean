/- Texts of ours, joined: Rank. -/
import Derived.Test.YtcidobpbepeakaaGreatB01
import Derived.Laws.Bits128
import Derived.Test.YtcidobpbepeakaaGreatB07
set_option maxRecDepth 1000000
set_option maxHeartbeats 6400000
namespace Go.Proofs.YtcidobpbepeakaaGreat.Pl
def num:List Nat→Nat
 | []=>0
 | a::l=>a+256*num l
def rep (c:Nat):List Nat→Nat
 | []=>0
 | _::l=>c+256*rep c l
theorem and_num {a b c d:Nat} (ha:a < 256) (hc:c < 256):(a+256*b) &&& (c+256*d)=(a &&& c)+256*(b &&& d):=by
 have h1:((a+256*b) &&& (c+256*d)) / 2^8=b &&& d:=by
  rw [Nat.and_div_two_pow]
  congr 1 <;> omega
 have h2:((a+256*b) &&& (c+256*d))%2^8=a &&& c:=by
  rw [Nat.and_mod_two_pow]
  congr 1 <;> omega
 have h3:=Nat.div_add_mod ((a+256*b) &&& (c+256*d)) (2^8)
 rw [h1,h2] at h3
 omega
def f1 (a:Nat):Nat:=(a / 2 &&& 85)+(a &&& 85)
def f2 (a:Nat):Nat:=(a / 4 &&& 51)+(a &&& 51)
def f3 (a:Nat):Nat:=(a / 16+a) &&& 15
theorem low1:∀a,a < 256→∀r,r < 2→(a / 2+128*r) &&& 85=a / 2 &&& 85:=by decide+kernel
theorem low2:∀a,a < 256→∀r,r < 4→(a / 4+64*r) &&& 51=a / 4 &&& 51:=by decide+kernel
theorem low3:∀a,a < 256→a%16≤4→a / 16≤4→∀r,r < 5→(a / 16+16*r+a) &&& 15=(a / 16+a) &&& 15∧a / 16+16*r+a < 256:=by decide+kernel
theorem f1_lt:∀a,a < 256→f1 a < 256:=by decide+kernel
theorem f2_lt:∀a,a < 256→f2 (f1 a) < 256∧f2 (f1 a)%16≤4∧f2 (f1 a) / 16≤4:=by decide+kernel
theorem f3_pop:∀a,a < 256→f3 (f2 (f1 a))=cnt a.testBit 8:=by decide+kernel
theorem step1:∀l:List Nat,(∀a∈l,a < 256)→(num l / 2 &&& rep 85 l)+(num l &&& rep 85 l)=num (l.map f1)
 | [],_=>by simp [num,rep]
 | a::l,h=>by
   have ha:=h a (List.mem_cons_self ..)
   have ih:=step1 l (fun x hx=>h x (List.mem_cons_of_mem _ hx))
   have e:(a+256*num l) / 2=(a / 2+128*(num l%2))+256*(num l / 2):=by omega
   show ((a+256*num l) / 2 &&& (85+256*rep 85 l))+((a+256*num l) &&& (85+256*rep 85 l))=f1 a+256*num (l.map f1)
   rw [e,and_num (by omega) (by decide),and_num ha (by decide),low1 a ha _ (Nat.mod_lt _ (by decide)),←ih]
   unfold f1
   omega
theorem step2:∀l:List Nat,(∀a∈l,a < 256)→(num l / 4 &&& rep 51 l)+(num l &&& rep 51 l)=num (l.map f2)
 | [],_=>by simp [num,rep]
 | a::l,h=>by
   have ha:=h a (List.mem_cons_self ..)
   have ih:=step2 l (fun x hx=>h x (List.mem_cons_of_mem _ hx))
   have e:(a+256*num l) / 4=(a / 4+64*(num l%4))+256*(num l / 4):=by omega
   show ((a+256*num l) / 4 &&& (51+256*rep 51 l))+((a+256*num l) &&& (51+256*rep 51 l))=f2 a+256*num (l.map f2)
   rw [e,and_num (by omega) (by decide),and_num ha (by decide),low2 a ha _ (Nat.mod_lt _ (by decide)),←ih]
   unfold f2
   omega
theorem num_mod16 {l:List Nat} (h:∀a∈l,a%16≤4):num l%16≤4:=by
 cases l with
 | nil=>simp [num]
 | cons a l=>
   have:=h a (List.mem_cons_self ..)
   show (a+256*num l)%16≤4
   omega
theorem step3:∀l:List Nat,(∀a∈l,a < 256∧a%16≤4∧a / 16≤4)→(num l / 16+num l) &&& rep 15 l=num (l.map f3)
 | [],_=>by simp [num,rep]
 | a::l,h=>by
   obtain ⟨ha,ha1,ha2⟩:=h a (List.mem_cons_self ..)
   have ih:=step3 l (fun x hx=>h x (List.mem_cons_of_mem _ hx))
   have hm:=num_mod16 (l:=l) (fun x hx=>(h x (List.mem_cons_of_mem _ hx)).2.1)
   obtain ⟨l1,l2⟩:=low3 a ha ha1 ha2 (num l%16) (by omega)
   have e:(a+256*num l) / 16+(a+256*num l)=(a / 16+16*(num l%16)+a)+256*(num l / 16+num l):=by omega
   show ((a+256*num l) / 16+(a+256*num l)) &&& (15+256*rep 15 l)=f3 a+256*num (l.map f3)
   rw [e,and_num l2 (by decide),l1,←ih]
   rfl
theorem cnt_num:∀(l:List Nat) (a:Nat),a < 256→∀k,cnt (a+256*num l).testBit (8+k)=cnt a.testBit 8+cnt (num l).testBit k:=fun l a ha k=>by
 rw [cnt_add]
 have e:a+256*num l=2^8*num l+a:=by omega
 have h1:cnt (a+256*num l).testBit 8=cnt a.testBit 8:=cnt_congr fun j hj=>by
  rw [e,Nat.testBit_two_pow_mul_add _ ha,if_pos hj]
 have h2:cnt (fun j=>(a+256*num l).testBit (8+j)) k=cnt (num l).testBit k:=cnt_congr fun j _=>by
  show (a+256*num l).testBit (8+j)=_
  rw [e,Nat.testBit_two_pow_mul_add _ ha,if_neg (by omega),Nat.add_sub_cancel_left]
 rw [h1,h2]
def sumC:List Nat→Nat
 | []=>0
 | a::l=>cnt a.testBit 8+sumC l
theorem cnt_sum:∀l:List Nat,(∀a∈l,a < 256)→cnt (num l).testBit (8*l.length)=sumC l
 | [],_=>rfl
 | a::l,h=>by
   have e:8*(a::l).length=8+8*l.length:=by rw [List.length_cons];omega
   rw [e]
   show cnt (a+256*num l).testBit _=cnt a.testBit 8+sumC l
   rw [cnt_num l a (h a (List.mem_cons_self ..)),cnt_sum l (fun x hx=>h x (List.mem_cons_of_mem _ hx))]
def bytes8 (x:Nat):List Nat:=[x%256,x / 256%256,x / 65536%256,x / 16777216%256,x / 4294967296%256,x / 1099511627776%256,x / 281474976710656%256,x / 72057594037927936%256]
theorem bytes8_num {x:Nat} (hx:x < 2^64):num (bytes8 x)=x:=by
 simp only [bytes8,num]
 omega
theorem bytes8_lt (x:Nat):∀a∈bytes8 x,a < 256:=by
 intro a ha
 simp only [bytes8,List.mem_cons,List.not_mem_nil,or_false] at ha
 omega
theorem rep85 (x:Nat):rep 85 (bytes8 x)=6148914691236517205:=by simp only [rep,bytes8]
theorem rep51 (x:Nat):rep 51 ((bytes8 x).map f1)=3689348814741910323:=by simp only [rep,bytes8,List.map_cons,List.map_nil]
theorem rep15 (x:Nat):rep 15 (((bytes8 x).map f1).map f2)=1085102592571150095:=by simp only [rep,bytes8,List.map_cons,List.map_nil]
theorem pop_steps {x y1 y2 y3:Nat} (hx:x < 2^64) (h1:(x / 2 &&& 6148914691236517205)+(x &&& 6148914691236517205)=y1) (h2:(y1 / 4 &&& 3689348814741910323)+(y1 &&& 3689348814741910323)=y2)
    (h3:(y2 / 16+y2) &&& 1085102592571150095=y3):
    ∃z0 z1 z2 z3 z4 z5 z6 z7:Nat,z0≤8∧z1≤8∧z2≤8∧z3≤8∧z4≤8∧z5≤8∧z6≤8∧z7≤8∧
      y3=z0+256*(z1+256*(z2+256*(z3+256*(z4+256*(z5+256*(z6+256*z7))))))∧pop x=z0+(z1+(z2+(z3+(z4+(z5+(z6+z7)))))):=by
 have hb:=bytes8_lt x
 have hn:=bytes8_num hx
 have m1:=rep85 x
 have m2:=rep51 x
 have m3:=rep15 x
 have s1:=step1 (bytes8 x) hb
 rw [m1,hn,h1] at s1
 have s2:=step2 ((bytes8 x).map f1) (fun a ha=>by
  obtain ⟨b,hb',rfl⟩:=List.mem_map.1 ha
  exact f1_lt b (hb b hb'))
 rw [m2,←s1,h2] at s2
 have s3:=step3 (((bytes8 x).map f1).map f2) (fun a ha=>by
  obtain ⟨b,hb',rfl⟩:=List.mem_map.1 ha
  obtain ⟨c,hc,rfl⟩:=List.mem_map.1 hb'
  exact f2_lt c (hb c hc))
 rw [m3,←s2,h3] at s3
 have hp:pop x=sumC (bytes8 x):=by
  have e:=cnt_sum (bytes8 x) hb
  have e8:8*(bytes8 x).length=64:=by simp [bytes8]
  rw [hn,e8] at e
  exact e
 have hf:∀a∈bytes8 x,f3 (f2 (f1 a))=cnt a.testBit 8:=fun a ha=>f3_pop a (hb a ha)
 rw [hp]
 clear hn s1 s2 h1 h2 h3 m1 m2 m3 hp hb
 unfold bytes8 at*
 generalize x%256=a0 at*
 generalize x / 256%256=a1 at*
 generalize x / 65536%256=a2 at*
 generalize x / 16777216%256=a3 at*
 generalize x / 4294967296%256=a4 at*
 generalize x / 1099511627776%256=a5 at*
 generalize x / 281474976710656%256=a6 at*
 generalize x / 72057594037927936%256=a7 at*
 simp only [List.map_cons,List.map_nil,num,Nat.mul_zero,Nat.add_zero] at s3
 simp only [List.mem_cons,List.not_mem_nil,or_false,forall_eq_or_imp,forall_eq] at hf
 obtain ⟨e0,e1,e2,e3,e4,e5,e6,e7⟩:=hf
 rw [e0,e1,e2,e3,e4,e5,e6,e7] at s3
 exact ⟨_,_,_,_,_,_,_,_,cnt_le _ _,cnt_le _ _,cnt_le _ _,cnt_le _ _,cnt_le _ _,cnt_le _ _,cnt_le _ _,cnt_le _ _,s3,by simp only [sumC,Nat.add_zero]⟩
theorem pop_sums {x y1 y2 y3:Nat} (hx:x < 2^64) (h1:(x / 2 &&& 6148914691236517205)+(x &&& 6148914691236517205)=y1) (h2:(y1 / 4 &&& 3689348814741910323)+(y1 &&& 3689348814741910323)=y2)
    (h3:(y2 / 16+y2) &&& 1085102592571150095=y3):
    y3≤578721382704613384∧(y3+y3 / 256+(y3+y3 / 256) / 65536+(y3+y3 / 256+(y3+y3 / 256) / 65536) / 4294967296)%128=pop x:=by
 obtain ⟨z0,z1,z2,z3,z4,z5,z6,z7,b0,b1,b2,b3,b4,b5,b6,b7,e,hp⟩:=pop_steps hx h1 h2 h3
 rw [hp]
 clear hp h1 h2 h3 hx
 refine ⟨by omega,?_⟩
 have d1:y3 / 256=z1+256*(z2+256*(z3+256*(z4+256*(z5+256*(z6+256*z7))))):=by omega
 obtain ⟨u,hu⟩:∃u,y3+y3 / 256=u:=⟨_,rfl⟩
 rw [hu]
 have eu:u=(z0+z1)+256*((z1+z2)+256*((z2+z3)+256*((z3+z4)+256*((z4+z5)+256*((z5+z6)+256*((z6+z7)+256*z7)))))):=by omega
 clear d1 e hu
 have d2:u / 65536=(z2+z3)+256*((z3+z4)+256*((z4+z5)+256*((z5+z6)+256*((z6+z7)+256*z7)))):=by omega
 obtain ⟨v,hv⟩:∃v,u+u / 65536=v:=⟨_,rfl⟩
 rw [hv]
 have ev:v=(z0+z1+z2+z3)+256*((z1+z2+z3+z4)+256*((z2+z3+z4+z5)+256*((z3+z4+z5+z6)+256*((z4+z5+z6+z7)+256*((z5+z6+z7)+256*((z6+z7)+256*z7)))))):=by omega
 clear d2 eu hv
 have d3:v / 4294967296=(z4+z5+z6+z7)+256*((z5+z6+z7)+256*((z6+z7)+256*z7)):=by omega
 rw [d3,ev]
 omega
end Go.Proofs.YtcidobpbepeakaaGreat.Pl
namespace Go.Proofs.YtcidobpbepeakaaGreat
open Go.RowKit
theorem and_m0 {x:Nat} (hx:x < 2^64):bits .and .u64 (x:Int) 6148914691236517205=((x &&& 6148914691236517205:Nat):Int):=and_u hx (by decide)
theorem and_m1 {x:Nat} (hx:x < 2^64):bits .and .u64 (x:Int) 3689348814741910323=((x &&& 3689348814741910323:Nat):Int):=and_u hx (by decide)
theorem and_m2 {x:Nat} (hx:x < 2^64):bits .and .u64 (x:Int) 1085102592571150095=((x &&& 1085102592571150095:Nat):Int):=and_u hx (by decide)
theorem pop_num (x:Nat) (hx:x < 2^64):∃y1 y2 y3:Nat,
    IntKind.u64.wrap (bits .and .u64 ((x:Int) / 2) 6148914691236517205+bits .and .u64 (x:Int) 6148914691236517205)=(y1:Int)∧
    IntKind.u64.wrap (bits .and .u64 ((y1:Int) / 4) 3689348814741910323+bits .and .u64 (y1:Int) 3689348814741910323)=(y2:Int)∧
    bits .and .u64 (IntKind.u64.wrap ((y2:Int) / 16+(y2:Int))) 1085102592571150095=(y3:Int)∧
    y3≤578721382704613384∧(y3+y3 / 256+(y3+y3 / 256) / 65536+(y3+y3 / 256+(y3+y3 / 256) / 65536) / 4294967296)%128=Pl.pop x:=by
 have k1:(x / 2 &&& 6148914691236517205)≤6148914691236517205:=Nat.and_le_right
 have k2:(x &&& 6148914691236517205)≤6148914691236517205:=Nat.and_le_right
 obtain ⟨y1,h1⟩:∃y1,(x / 2 &&& 6148914691236517205)+(x &&& 6148914691236517205)=y1:=⟨_,rfl⟩
 have b1:y1 < 2^64:=by omega
 have k3:(y1 / 4 &&& 3689348814741910323)≤3689348814741910323:=Nat.and_le_right
 have k4:(y1 &&& 3689348814741910323)≤3689348814741910323:=Nat.and_le_right
 obtain ⟨y2,h2⟩:∃y2,(y1 / 4 &&& 3689348814741910323)+(y1 &&& 3689348814741910323)=y2:=⟨_,rfl⟩
 have b2:y2≤7378697629483820646:=by omega
 obtain ⟨y3,h3⟩:∃y3,(y2 / 16+y2) &&& 1085102592571150095=y3:=⟨_,rfl⟩
 obtain ⟨c1,c2⟩:=Pl.pop_sums hx h1 h2 h3
 refine ⟨y1,y2,y3,?_,?_,?_,c1,c2⟩
 · have e:(x:Int) / 2=((x / 2:Nat):Int):=by omega
   rw [e,and_m0 (by omega),and_m0 hx,←Int.natCast_add,h1,wrap_u]
   congr 1
   omega
 · have e:(y1:Int) / 4=((y1 / 4:Nat):Int):=by omega
   rw [e,and_m1 (by omega),and_m1 b1,←Int.natCast_add,h2,wrap_u]
   congr 1
   omega
 · have e:(y2:Int) / 16+(y2:Int)=((y2 / 16+y2:Nat):Int):=by omega
   rw [e,wrap_u,and_m2 (Nat.mod_lt _ (by decide))]
   have e2:(y2 / 16+y2)%2^64=y2 / 16+y2:=by omega
   rw [e2,h3]
theorem ones64_any (x:Nat) (hx:x < 2^64) (w:World):
    Calls Tryz.prog 160 #[.int .u64 (x:Int)] w fun e w'=>e=.returned (.int .i64 (Pl.pop x:Nat))∧w=w':=by
 obtain ⟨y1,y2,y3,h1,h2,h3,hb,hp⟩:=pop_num x hx
 have HP:=Lib.hid hp
 clear hp
 have hb1:(y3:Int)≤578721382704613384:=by omega
 have e4:IntKind.u64.wrap ((y3:Int)+(y3:Int) / 256)=(y3:Int)+(y3:Int) / 256:=by rw [IntKind.wrap_u64];omega
 obtain ⟨y4,h4⟩:∃y4:Nat,y4=y3+y3 / 256:=⟨_,rfl⟩
 have e4':IntKind.u64.wrap ((y3:Int)+(y3:Int) / 256)=(y4:Int):=by rw [IntKind.wrap_u64];omega
 obtain ⟨y5,h5⟩:∃y5:Nat,y5=y4+y4 / 65536:=⟨_,rfl⟩
 have e5':IntKind.u64.wrap ((y4:Int)+(y4:Int) / 65536)=(y5:Int):=by rw [IntKind.wrap_u64];omega
 obtain ⟨y6,h6⟩:∃y6:Nat,y6=y5+y5 / 4294967296:=⟨_,rfl⟩
 have e6':IntKind.u64.wrap ((y5:Int)+(y5:Int) / 4294967296)=(y6:Int):=by rw [IntKind.wrap_u64];omega
 have hb6:(y6:Int)≤9223372036854775807:=by omega
 have H4:=Lib.hid h4
 have H5:=Lib.hid h5
 have H6:=Lib.hid h6
 clear e4 h4 h5 h6 hb hb1
 have e7:=i64_and127 (y6:Int)
 go_enter Tryz.func160,Tryz.ntmps160
 go_wp2
 go_ret
 refine ⟨ret_i64 ?_,rfl⟩
 rw [←HP.out,H6.out,H5.out,H4.out]
 omega
end Go.Proofs.YtcidobpbepeakaaGreat
namespace Go.Proofs.YtcidobpbepeakaaGreat
open Go.RowKit
theorem Bits.cnt_same {ws:List Nat} {n:Nat} {f:Nat→Bool} (h:Bits ws n f) {i:Nat} (hi:i≤n):Pl.cnt f i=Pl.cnt (Pl.bitAt ws) i:=
 Pl.cnt_congr fun j hj=>(h.same j (by omega)).symm
section
variable {w w':World} {B g gw n:Nat} {av:Value} {ws:List Nat} {f:Nat→Bool}
theorem rank_top (h:Vc w B g gw av n ws f) (i:Int) (hi:Pl.clamp n i=n):Calls Tryz.prog 111 #[.pointer (some ⟨g,0,none⟩),.int .i64 i] w fun e w'=>e=.returned (.int .i64 ((Pl.cnt f n:Nat):Int))∧w=w':=by
 have hW:=within_any h i
 rw [hi] at hW
 have HW:=Lib.hid hW
 clear hW hi
 go_enter Tryz.func111,Tryz.ntmps111
 go_wp2_with (first
  | (go_at_call 159;refine HW.out.mono ?_;rintro e w' ⟨rfl,rfl⟩)
  | (go_at_call 99;refine (vlen_any h).mono ?_;rintro e w' ⟨rfl,rfl⟩)
  | (go_at_call 100;refine (vones_any h).mono ?_;rintro e w' ⟨rfl,rfl⟩))
 go_ret
 exact ⟨rfl,rfl⟩
theorem rank_in (h:Vc w B g gw av n ws f) (i:Int) (j:Nat) (hi:Pl.clamp n i=j) (hj:j < n):Calls Tryz.prog 111 #[.pointer (some ⟨g,0,none⟩),.int .i64 i] w fun e w'=>e=.returned (.int .i64 ((Pl.cnt f j:Nat):Int))∧w=w':=by
 have hW:=within_any h i
 rw [hi] at hW
 have HW:=Lib.hid hW
 have hfew:=h.bits.few
 obtain ⟨L,hL⟩:∃L,ws.length=L:=⟨_,rfl⟩
 have hlen:=h.bits.len
 rw [hL] at hlen
 obtain ⟨q,hq⟩:∃q,j / 64=q:=⟨_,rfl⟩
 obtain ⟨r,hr⟩:∃r,j%64=r:=⟨_,rfl⟩
 obtain ⟨b,hb⟩:∃b,q / 8=b:=⟨_,rfl⟩
 obtain ⟨c,hc⟩:∃c,b*8=c:=⟨_,rfl⟩
 have hcq:c≤q:=by omega
 have hqL:q < L:=by omega
 have hcL:c < L:=by omega
 have hr64:r < 64:=by omega
 have hL9:L≤65536:=by omega
 have eq1:(j:Int) / 64=(q:Int):=by omega
 have eq2:(j:Int)%64=(r:Int):=by omega
 have eq3:(q:Int) / 8=(b:Int):=by omega
 have eq4:(b:Int)*8=(c:Int):=by omega
 have hsame:=h.bits
 obtain ⟨ga,ca,rfl,hB,hga,hca⟩:=h.row b (by omega)
 rw [h.bits.cnt_same (by omega)] at hca
 have e512:512*b=64*c:=by omega
 rw [e512] at hca
 have hcm:Pl.cnt (Pl.bitAt ws) (64*c)≤64*c:=Pl.cnt_le _ _
 have hc2:=h.c2
 have hc3:=h.c3
 rw [hL] at hc2 hc3
 have hm:b < (L+7) / 8:=by omega
 have hne:((j:Int)==(n:Int))=false:=by rw [beq_eq_false_iff_ne];omega
 have HH:=Lib.hid h
 have HLen:=Lib.hid (vlen_any h)
 have Hq:=Lib.hid hq
 have Hr:=Lib.hid hr
 have HL:=Lib.hid hL
 have HS:=Lib.hid hsame
 clear h hq hr hL hb hc hlen hi hW e512 hsame
 go_enter Tryz.func111,Tryz.ntmps111
 go_wp2_with (first
  | (go_at_call 159;refine HW.out.mono ?_;rintro e w' ⟨rfl,rfl⟩)
  | (go_at_call 99;refine HLen.out.mono ?_;rintro e w' ⟨rfl,rfl⟩))
 go_loop [7,40] (fun s v=>∃k:Nat,k≤q - c∧v=.int .i64 (k:Int)∧s=.int .i64 ((Pl.cnt (Pl.bitAt ws) (64*(c+k)):Nat):Int)) (fun _ v=>(q - c) - (intOf v).toNat)
 case atStart=>exact ⟨0,Nat.zero_le _,rfl,rfl⟩
 case round=>
  obtain ⟨k,hk,rfl,rfl⟩:=hrel
  have hm1:=Pl.cnt_le (Pl.bitAt ws) (64*(c+k))
  by_cases hlt:k < q - c
  · have hcell:=HH.out.word (c+k) (by rw [HL.out];omega)
    have hx:=HH.out.bits.small.at_ (c+k)
    have hstep:=Pl.cnt_word ws (c+k)
    generalize ws.getD (c+k) 0=x at hcell hx hstep
    have hp:=Pl.pop_le x
    have HO:=Lib.hid (ones64_any x hx w)
    have HT:=Lib.hid hstep
    clear hstep hx
    generalize Pl.cnt (Pl.bitAt ws) (64*(c+k))=m at hm1 HT ⊢
    go_wp2_with (go_at_call 160;refine HO.out.mono ?_;rintro e w' ⟨rfl,rfl⟩)
    go_round
    case rel=>
     refine ⟨k+1,by omega,by go_num,?_⟩
     rw [show c+(k+1)=c+k+1 by omega,HT.out]
     go_num
    case measure=>simp [intOf];omega
  · have hkq:k=q - c:=by omega
    have hcell:=HH.out.word q (by rw [HL.out];omega)
    have hx:=HH.out.bits.small.at_ q
    have hstep:=Pl.cnt_part ws q r hr64
    have e1:64*(c+k)=64*q:=by omega
    have e2:64*q+r=j:=by have:=Hq.out;have:=Hr.out;omega
    rw [e1] at hm1 ⊢
    rw [e2] at hstep
    generalize ws.getD q 0=x at hcell hx hstep
    have hmask:bits .and .u64 (x:Int) (IntKind.u64.wrap (IntKind.u64.wrap (2^r) - 1))=((x &&& (2^r - 1):Nat):Int):=by
     have hw:2^r - 1 < 2^64:=by have:=Pl.two_pow_le_64 (Nat.le_of_lt hr64);have:=Nat.two_pow_pos r;omega
     rw [ones_num r (by omega),and_u hx hw]
    have hy:x &&& (2^r - 1) < 2^64:=Nat.lt_of_le_of_lt Nat.and_le_left hx
    have hp:=Pl.pop_le (x &&& (2^r - 1))
    generalize x &&& (2^r - 1)=y at hmask hy hp hstep
    have HO:=Lib.hid (ones64_any y hy w)
    have HT:=Lib.hid hstep
    have HM:=Lib.hid hmask
    have HE:Hid (Pl.cnt f j=Pl.cnt (Pl.bitAt ws) j):=Lib.hid (HS.out.cnt_same (by omega))
    clear hstep hx e1 e2 hmask hkq hy
    generalize Pl.cnt (Pl.bitAt ws) (64*q)=m at hm1 HT ⊢
    go_wp2_with fail
    rw [HM.out]
    refine HO.out.mono ?_
    rintro e w' ⟨rfl,rfl⟩
    go_wp2_with fail
    go_ret
    refine ⟨ret_i64 ?_,rfl⟩
    rw [HE.out,HT.out]
    omega
theorem rank_any (h:Vc w B g gw av n ws f) (i:Int):Calls Tryz.prog 111 #[.pointer (some ⟨g,0,none⟩),.int .i64 i] w fun e w'=>e=.returned (.int .i64 ((Pl.cnt f (Pl.clamp n i):Nat):Int))∧w=w':=by
 by_cases hi:Pl.clamp n i=n
 · rw [hi];exact rank_top h i hi
 · exact rank_in h i _ rfl (by have:=Pl.clamp_le n i;omega)
def inv (f:Nat→Bool):Nat→Bool:=fun j=>!f j
theorem zeros_any (h:Vc w B g gw av n ws f) (i:Int):Calls Tryz.prog 146 #[.pointer (some ⟨g,0,none⟩),.int .i64 i] w fun e w'=>e=.returned (.int .i64 ((Pl.cnt (inv f) (Pl.clamp n i):Nat):Int))∧w=w':=by
 have HN:=Lib.hid (Pl.cnt_not f (Pl.clamp n i))
 have HW:=Lib.hid (within_any h i)
 have HR:=Lib.hid (rank_any h i)
 have hc:=Pl.clamp_le n i
 have hm:=Pl.cnt_le f (Pl.clamp n i)
 have hf:=h.bits.few
 have HI:Hid (Pl.cnt (inv f) (Pl.clamp n i)=Pl.clamp n i - Pl.cnt f (Pl.clamp n i)):=Lib.hid (by have:=HN.out;unfold inv;omega)
 clear h
 generalize Pl.cnt (inv f) (Pl.clamp n i)=z at HI ⊢
 generalize Pl.cnt f (Pl.clamp n i)=m at HR HI hm
 generalize Pl.clamp n i=j at HW HR HI hm hc
 clear HN
 go_enter Tryz.func146,Tryz.ntmps146
 go_wp2_with (first
  | (go_at_call 159;refine HW.out.mono ?_;rintro e w' ⟨rfl,rfl⟩)
  | (go_at_call 111;refine HR.out.mono ?_;rintro e w' ⟨rfl,rfl⟩))
 go_ret
 refine ⟨ret_i64 ?_,rfl⟩
 rw [HI.out]
 omega
end
end Go.Proofs.YtcidobpbepeakaaGreat
