/- Texts of ours, joined: FindDev. -/
import Derived.Test.YtcidobpbepeakaaGreatB02
import Derived.Test.YtcidobpbepeakaaGreatB37
set_option maxRecDepth 1000000
set_option maxHeartbeats 6400000
namespace Go.Proofs.YtcidobpbepeakaaGreat
open Go.RowKit
open Pl (cnt cnt_succ cnt_congr)
theorem trn_cntR {V T:Nat→Int} {n:Nat} {s:Nat→Nat} {c:Int} {i:Nat} (hV:∀i,i < n→V i=trnF T n s i) (hi:i≤n):cntR V c 0 (i:Int) n=trnC T n s c i:=(cntR_upto hi).trans (cnt_congr fun j hj=>by rw [hV j (by omega)])
theorem trnB_le (T:Nat→Int) (n:Nat) (s:Nat→Nat) (c:Int):trnB T n s c≤n:=cnt_le _ n
theorem trnC_le (T:Nat→Int) (n:Nat) (s:Nat→Nat) (c:Int) (k:Nat):trnC T n s c k≤k:=cnt_le _ k
theorem trnC_none' {T:Nat→Int} {n:Nat} {s:Nat→Nat} {c:Int} {k:Nat} (h:∀i,i < k→trnF T n s i≠c):trnC T n s c k=0:=by
 have:trnC T n s c k=cnt (fun _=>false) k:=cnt_congr fun j hj=>decide_eq_false (h j hj)
 rw [this]
 clear this h
 induction k with
 | zero=>rfl
 | succ k ih=>rw [cnt_succ,ih];rfl
theorem trnC_none {T:Nat→Int} {n:Nat} {s:Nat→Nat} {c:Int} (h:∀i,i < n→trnF T n s i≠c) {k:Nat} (hk:k≤n):trnC T n s c k=0:=trnC_none' fun i hi=>h i (by omega)
theorem trnC_some {T:Nat→Int} {n:Nat} {s:Nat→Nat} {c:Int} {k:Nat} (hk:k≤n) (h:trnC T n s c k≠0):∃i,i < n∧trnF T n s i=c:=Classical.byContradiction fun g=>h (trnC_none (fun i hi e=>g ⟨i,hi,e⟩) hk)
def mkB (s:Nat→Nat) (k i:Nat):Bool:=decide (s i%k=0)
structure FdA where
 (gm gl cl m gb gbs wb gk gw gp gps wp:Nat)
 (wsb wsk wsp:List Nat)
 (av:Value)
 (X:Nat→Nat)
 (V:Nat→Int)
structure Fd (w:World) (B g n:Nat) (T:Nat→Int) (s:Nat→Nat) (al k:Nat) (a:FdA):Prop where
 head:Lies w g 118 [.int .i64 (T (n - 1)),.int .i64 (k:Int),.pointer (some ⟨a.gm,0,none⟩),.pointer (some ⟨a.gb,0,none⟩),.pointer (some ⟨a.gk,0,none⟩),.pointer (some ⟨a.gp,0,none⟩)]
 row:Mx w B a.gm a.gl a.cl n a.V a.m
 alike:∀i,i < n→a.V i=trnF T n s i
 below:Full w a.gb a.gbs a.wb (a.m+2) a.wsb (fun x=>trnB T n s (x:Int))
 marked:Vc w B a.gk a.gw a.av n a.wsk (mkB s k)
 places:Full w a.gp a.gps a.wp (cnt (mkB s k) n) a.wsp a.X
 mult:∀i,i < n→s i%k=0→a.X (cnt (mkB s k) i)=s i / k
 lo:B≤g∧B≤a.gb∧B≤a.gbs∧B≤a.gp∧B≤a.gps
 once:OnceT T n
 sa:IsSA T n s
 most:∀i,i < n→0≤T i∧T i≤(a.m:Int)
 right:∀i,i < n→T i < (al:Int)
 few:n≤4194303
 step:1≤k∧k≤4194304
theorem itsR_alike {w:World} {g n:Nat} {U V:Nat→Int} (h:Lies w g 3 (icells U n)) (hn:n≤4194304) (hU:∀j,j < n→U j=V j) (hV:∀j,j < n→ -9223372036854775808≤V j∧V j≤9223372036854775807):ItsR w (some ⟨g,0,none⟩) n n V:=
 ⟨(fun e=>by cases e),Nat.le_refl _,by unfold maxLen;omega,fun k hk=>⟨_,rfl,h.lt,by
   rw [Addr.add_mid,Nat.zero_add,h.cell,←hU k hk]
   exact icells_at _ _ _ hk,hV k hk⟩⟩
section
variable {w w':World} {B g n al k:Nat} {T:Nat→Int} {s:Nat→Nat} {a:FdA}
theorem Fd.keepB (h:Fd w B g n T s al k a) (hs:w.heap.size≤w'.heap.size) (hb:∀k,B≤k→k < w.heap.size→w'.heap[k]?=w.heap[k]?):Fd w' B g n T s al k a:=
 ⟨h.head.same (hb g h.lo.1 h.head.lt),h.row.keepB hs hb,h.alike,h.below.keep (hb _ h.lo.2.1 h.below.pk.head.lt) (hb _ h.lo.2.2.1 h.below.pk.body.lt),h.marked.keepB hs hb,h.places.keep (hb _ h.lo.2.2.2.1 h.places.pk.head.lt) (hb _ h.lo.2.2.2.2 h.places.pk.body.lt),h.mult,h.lo,h.once,h.sa,h.most,h.right,h.few,h.step⟩
theorem Fd.keep (h:Fd w B g n T s al k a) (hb:Below w.heap.size w w'):Fd w' B g n T s al k a:=h.keepB hb.size fun k _ hk=>hb.block k hk
theorem Fd.drewN (h:Fd w B g n T s al k a) (q:Nat):Fd (w.drewN q) B g n T s al k a:=h.keepB (Nat.le_refl _) fun _ _ _=>rfl
theorem Fd.c0 (h:Fd w B g n T s al k a):w.cell? ⟨g,0,none⟩=some (.int .i64 (T (n - 1))):=h.head.cell 0
theorem Fd.c1 (h:Fd w B g n T s al k a):w.cell? ⟨g,1,none⟩=some (.int .i64 (k:Int)):=h.head.cell 1
theorem Fd.c2 (h:Fd w B g n T s al k a):w.cell? ⟨g,2,none⟩=some (.pointer (some ⟨a.gm,0,none⟩)):=h.head.cell 2
theorem Fd.c3 (h:Fd w B g n T s al k a):w.cell? ⟨g,3,none⟩=some (.pointer (some ⟨a.gb,0,none⟩)):=h.head.cell 3
theorem Fd.c4 (h:Fd w B g n T s al k a):w.cell? ⟨g,4,none⟩=some (.pointer (some ⟨a.gk,0,none⟩)):=h.head.cell 4
theorem Fd.c5 (h:Fd w B g n T s al k a):w.cell? ⟨g,5,none⟩=some (.pointer (some ⟨a.gp,0,none⟩)):=h.head.cell 5
theorem Fd.turned (h:Fd w B g n T s al k a) {i:Nat} (hi:i < n):0≤trnF T n s i∧trnF T n s i≤(a.m:Int)∧trnF T n s i < (al:Int):=by
 rw [trnF_at h.sa hi]
 have hl:=aheadN_lt (h.sa.1 i hi)
 exact ⟨(h.most _ hl).1,(h.most _ hl).2,h.right _ hl⟩
theorem fdLen_any (h:Fd w B g n T s al k a):Calls Tryz.prog 69 #[.pointer (some ⟨g,0,none⟩)] w fun e w'=>e=.returned (.int .i64 (n:Int))∧w=w':=by
 have HL:=Lib.hid (wvLen_any h.row)
 have h2:=h.c2
 clear h
 go_enter Tryz.func69,Tryz.ntmps69
 go_wp2_with (go_at_call 105;(with_reducible refine HL.out.mono ?_);rintro e w' ⟨rfl,rfl⟩)
 go_ret
 exact ⟨rfl,rfl⟩
theorem fdHas_of (v:Value) (i:Int) (r:Bool) (hr:r=true↔0≤i∧i < (n:Int)) (hL:Calls Tryz.prog 69 #[v] w fun e w'=>e=.returned (.int .i64 (n:Int))∧w=w'):
    Calls Tryz.prog 109 #[v,.int .i64 i] w fun e w'=>e=.returned (.bool r)∧w=w':=by
 have HL:=Lib.hid hL
 clear hL
 by_cases h0:i < 0
 · obtain rfl:r=false:=Bool.eq_false_iff.2 fun e=>by have:=hr.1 e;omega
   have d0:decide ((0:Int)≤i)=false:=decide_eq_false (by omega)
   clear hr
   go_enter Tryz.func109,Tryz.ntmps109
   go_wp2_with fail
   go_ret
   exact ⟨rfl,rfl⟩
 · have d0:decide ((0:Int)≤i)=true:=decide_eq_true (by omega)
   have d1:decide (i < (n:Int))=r:=by
    rw [Bool.eq_iff_iff,hr,decide_eq_true_iff]
    omega
   clear hr
   go_enter Tryz.func109,Tryz.ntmps109
   go_wp2_with (go_at_call 69;(with_reducible refine HL.out.mono ?_);rintro e w' ⟨rfl,rfl⟩)
   go_ret
   exact ⟨rfl,rfl⟩
theorem fdAhead_any (h:Fd w B g n T s al k a) (i:Nat) (hi:i < n):Calls Tryz.prog 108 #[.pointer (some ⟨g,0,none⟩),.int .i64 (i:Int)] w fun e w'=>e=.returned (.int .i64 ((lfF T n s i:Nat):Int))∧∃q,w'=w.drewN q:=by
 obtain ⟨c,hc⟩:∃c:Nat,trnF T n s i=(c:Int):=⟨(trnF T n s i).toNat,by have:=h.turned hi;omega⟩
 have ht:=h.turned hi
 have hA:=wvAt_in h.row i hi
 rw [h.alike i hi,hc] at hA
 rw [hc] at ht
 have HAt:=Lib.hid hA
 obtain ⟨x,hx⟩:∃x,trnB T n s (c:Int)=x:=⟨_,rfl⟩
 obtain ⟨y,hy⟩:∃y,trnC T n s (c:Int) i=y:=⟨_,rfl⟩
 have HG:∀q,Hid (Calls Tryz.prog 107 #[.pointer (some ⟨a.gb,0,none⟩),.int .i64 (c:Int)] (w.drewN q) fun e w'=>e=.returned (.int .u64 (x:Int))∧w.drewN q=w'):=fun q=>Lib.hid (by
  have:=(h.drewN q).below.get c (by omega)
  rwa [hx] at this)
 have HR:∀q,Hid (Calls Tryz.prog 115 #[.pointer (some ⟨a.gm,0,none⟩),.int .i64 (c:Int),.int .i64 (i:Int)] (w.drewN q) fun e w'=>e=.returned (.int .i64 (y:Int))∧w.drewN q=w'):=fun q=>Lib.hid (by
  have:=wvRank_any (h.drewN q).row (c:Int) (i:Int)
  rwa [trn_cntR h.alike (by omega),hy] at this)
 have HE:Hid (lfF T n s i=x+y):=Lib.hid (by unfold lfF;rw [hc,hx,hy])
 have hxn:x≤n:=by rw [←hx];exact trnB_le _ _ _ _
 have hyn:y≤i:=by rw [←hy];exact trnC_le _ _ _ _ _
 have hn:=h.few
 have c2:=h.c2
 have c3:=h.c3
 have e1:IntKind.i64.wrap (x:Int)=(x:Int):=IntWalk.i64_in _ (by omega)
 clear hA ht hc h hx hy
 go_enter Tryz.func108,Tryz.ntmps108
 go_wp2_with (go_at_call 158;(with_reducible refine HAt.out.mono ?_);rintro e w' ⟨rfl,rfl⟩)
 go_quiet ((first
  | (go_at_call 107;with_reducible exact quiet_keep (HG _).out)
  | (go_at_call 115;with_reducible exact quiet_keep (HR _).out)))
 go_wp2_with fail
 go_ret
 exact ⟨ret_i64 (by rw [HE.out];omega),_,rfl⟩
theorem fdDear_any (h:Fd w B g n T s al k a) (many:Nat) (hm:many≤n):Calls Tryz.prog 63 #[.pointer (some ⟨g,0,none⟩),.int .i64 (many:Int)] w fun e w'=>∃r:Bool,e=.returned (.bool r)∧∃q,w'=w.drewN q:=by
 have HL:∀q,Hid (Calls Tryz.prog 69 #[.pointer (some ⟨g,0,none⟩)] (w.drewN q) fun e w'=>e=.returned (.int .i64 (n:Int))∧w.drewN q=w'):=fun q=>Lib.hid (fdLen_any (h.drewN q))
 have c1:=h.c1
 have hn:=h.few
 have hk:=h.step
 have hn0:=h.once.1
 obtain ⟨u,hu⟩:∃u:Nat,min k n=u:=⟨_,rfl⟩
 have hu1:min (k:Int) (n:Int)=(u:Int):=by omega
 have hu2:1≤u∧u≤n:=by omega
 obtain ⟨z,hz⟩:∃z,many*(u - 1)=z:=⟨_,rfl⟩
 have hzl:z≤4194303*4194303:=by rw [←hz];exact Nat.mul_le_mul (by omega) (by omega)
 have e2:IntKind.i64.wrap ((u:Int) - 1)=((u - 1:Nat):Int):=by rw [IntWalk.i64_in _ (by omega)];omega
 have e3:IntKind.i64.wrap ((many:Int)*((u - 1:Nat):Int))=(z:Int):=by
  rw [←Int.natCast_mul,hz]
  exact IntWalk.i64_in _ (by omega)
 obtain ⟨u1,hu3⟩:∃u1,u - 1=u1:=⟨_,rfl⟩
 rw [hu3] at e2 e3
 clear h hz hu hu3 hn0 hk hm
 go_enter Tryz.func63,Tryz.ntmps63
 go_wp2_with fail
 go_quiet ((go_at_call 69;with_reducible exact quiet_keep (HL _).out))
 go_wp2_with fail
 go_ret
 exact ⟨_,rfl,_,rfl⟩
theorem narF_none {x y c:Int} (hx:¬(0≤x∧x < y∧y≤(n:Int))):narF T n s al x y c=(0,0):=by
 unfold narF
 refine if_neg fun g=>?_
 obtain ⟨⟨h1,h2,h3,_⟩,h4⟩:=g
 obtain rfl:x=y:=by omega
 exact h4 rfl
theorem narF_alike {p q:Nat} {c:Int} (hx:trnC T n s c p=trnC T n s c q):narF T n s al (p:Int) (q:Int) c=(0,0):=by
 unfold narF
 exact if_neg fun g=>g.2 (by rw [Int.toNat_natCast,Int.toNat_natCast];exact hx)
theorem fdNarrow_any (h:Fd w B g n T s al k a) (x y c:Int):Calls Tryz.prog 71 #[.pointer (some ⟨g,0,none⟩),.int .i64 x,.int .i64 y,.int .i64 c] w fun e w'=>e=.returned (.tuple #[.int .i64 (narF T n s al x y c).1,.int .i64 (narF T n s al x y c).2])∧∃q,w'=w.drewN q:=by
 have HL:=Lib.hid (fdLen_any h)
 by_cases h0:x < 0
 · rw [narF_none (by omega)]
   have d0:decide (x < 0)=true:=decide_eq_true h0
   clear h
   go_enter Tryz.func71,Tryz.ntmps71
   go_wp2_with fail
   go_ret2
   exact ⟨rfl,0,rfl⟩
 have d0:decide (x < 0)=false:=decide_eq_false h0
 by_cases h1:y≤x
 · rw [narF_none (by omega)]
   have d1:decide (y≤x)=true:=decide_eq_true h1
   clear h
   go_enter Tryz.func71,Tryz.ntmps71
   go_wp2_with fail
   go_ret2
   exact ⟨rfl,0,rfl⟩
 have d1:decide (y≤x)=false:=decide_eq_false h1
 by_cases h2:(n:Int) < y
 · rw [narF_none (by omega)]
   have d2:decide ((n:Int) < y)=true:=decide_eq_true h2
   clear h
   go_enter Tryz.func71,Tryz.ntmps71
   go_wp2_with (go_at_call 69;(with_reducible refine HL.out.mono ?_);rintro e w' ⟨rfl,rfl⟩)
   go_ret2
   exact ⟨rfl,0,rfl⟩
 have d2:decide ((n:Int) < y)=false:=decide_eq_false h2
 obtain ⟨p,rfl⟩:∃p:Nat,x=(p:Int):=⟨x.toNat,by omega⟩
 obtain ⟨q,rfl⟩:∃q:Nat,y=(q:Int):=⟨y.toNat,by omega⟩
 have d2':decide (n < q)=false:=decide_eq_false (by omega)
 have d1':decide (q≤p)=false:=decide_eq_false (by omega)
 obtain ⟨u,hu⟩:∃u,trnC T n s c p=u:=⟨_,rfl⟩
 obtain ⟨v,hv⟩:∃v,trnC T n s c q=v:=⟨_,rfl⟩
 have HR1:∀j,Hid (Calls Tryz.prog 115 #[.pointer (some ⟨a.gm,0,none⟩),.int .i64 c,.int .i64 (p:Int)] (w.drewN j) fun e w'=>e=.returned (.int .i64 (u:Int))∧w.drewN j=w'):=fun j=>Lib.hid (by
  have:=wvRank_any (h.drewN j).row c (p:Int)
  rwa [trn_cntR h.alike (by omega),hu] at this)
 have HR2:∀j,Hid (Calls Tryz.prog 115 #[.pointer (some ⟨a.gm,0,none⟩),.int .i64 c,.int .i64 (q:Int)] (w.drewN j) fun e w'=>e=.returned (.int .i64 (v:Int))∧w.drewN j=w'):=fun j=>Lib.hid (by
  have:=wvRank_any (h.drewN j).row c (q:Int)
  rwa [trn_cntR h.alike (by omega),hv] at this)
 have c2:=h.c2
 have c3:=h.c3
 have hn:=h.few
 by_cases huv:u=v
 · rw [narF_alike (by rw [hu,hv];exact huv)]
   subst huv
   have d3:((u:Int)==(u:Int))=true:=by simp
   clear h hu hv
   go_enter Tryz.func71,Tryz.ntmps71
   go_wp2_with (go_at_call 69;(with_reducible refine HL.out.mono ?_);rintro e w' ⟨rfl,rfl⟩)
   go_quiet ((first
    | (go_at_call 115;with_reducible exact quiet_keep (HR1 _).out)
    | (go_at_call 115;with_reducible exact quiet_keep (HR2 _).out)))
   go_wp2_with fail
   go_ret2
   exact ⟨rfl,_,rfl⟩
 · have hc:0≤c∧c≤(a.m:Int)∧c < (al:Int):=by
    have hne:trnC T n s c q≠0∨trnC T n s c p≠0:=by omega
    rcases hne with g1 | g1
    · obtain ⟨i,hi,e⟩:=trnC_some (by omega) g1
      rw [←e]
      exact h.turned hi
    · obtain ⟨i,hi,e⟩:=trnC_some (by omega) g1
      rw [←e]
      exact h.turned hi
   obtain ⟨b,rfl⟩:∃b:Nat,c=(b:Int):=⟨c.toNat,by omega⟩
   obtain ⟨z,hz⟩:∃z,trnB T n s (b:Int)=z:=⟨_,rfl⟩
   have HG:∀j,Hid (Calls Tryz.prog 107 #[.pointer (some ⟨a.gb,0,none⟩),.int .i64 (b:Int)] (w.drewN j) fun e w'=>e=.returned (.int .u64 (z:Int))∧w.drewN j=w'):=fun j=>Lib.hid (by
    have:=(h.drewN j).below.get b (by omega)
    rwa [hz] at this)
   have hzn:z≤n:=by rw [←hz];exact trnB_le _ _ _ _
   have hun:u≤p:=by rw [←hu];exact trnC_le _ _ _ _ _
   have hvn:v≤q:=by rw [←hv];exact trnC_le _ _ _ _ _
   have HE:Hid (narF T n s al (p:Int) (q:Int) (b:Int)=(((z+u:Nat):Int),((z+v:Nat):Int))):=Lib.hid (by
    unfold narF
    rw [Int.toNat_natCast,Int.toNat_natCast,hz,hu,hv]
    exact if_pos ⟨⟨by omega,by omega,by omega,by omega,by omega⟩,huv⟩)
   rw [HE.out]
   have d3:((u:Int)==(v:Int))=false:=by rw [beq_eq_false_iff_ne];omega
   have d4:¬u=v:=huv
   have e1:IntKind.i64.wrap (z:Int)=(z:Int):=IntWalk.i64_in _ (by omega)
   clear h hu hv hz hc huv
   go_enter Tryz.func71,Tryz.ntmps71
   go_wp2_with (go_at_call 69;(with_reducible refine HL.out.mono ?_);rintro e w' ⟨rfl,rfl⟩)
   go_quiet ((first
    | (go_at_call 115;with_reducible exact quiet_keep (HR1 _).out)
    | (go_at_call 115;with_reducible exact quiet_keep (HR2 _).out)))
   go_wp2_with (go_at_call 107;(with_reducible refine (HG _).out.mono ?_);rintro e w' ⟨rfl,rfl⟩)
   go_ret2
   exact ⟨ret2_i64 (by omega) (by omega),_,rfl⟩
theorem mult_less {p k d:Nat} (hk:0 < k) (hd:d < p%k):(p - d)%k≠0:=by
 have h1:=Nat.div_add_mod p k
 have h2:=Nat.mod_lt p hk
 have h3:p - d=k*(p / k)+(p%k - d):=by omega
 rw [h3,Nat.mul_add_mod,Nat.mod_eq_of_lt (by omega)]
 omega
theorem mult_last (p k:Nat):(p - p%k)%k=0∧(p - p%k) / k*k+p%k=p:=by
 have h1:=Nat.div_add_mod p k
 have h3:p - p%k=k*(p / k):=by omega
 refine ⟨by rw [h3,Nat.mul_mod_right],?_⟩
 have h4:(p - p%k) / k*k=p - p%k:=Nat.div_mul_cancel (Nat.dvd_of_mod_eq_zero (by rw [h3,Nat.mul_mod_right]))
 have:=Nat.mod_le p k
 omega
theorem fdPlace_in (h:Fd w B g n T s al k a) (j:Nat) (hj:j < n):Calls Tryz.prog 65 #[.pointer (some ⟨g,0,none⟩),.int .i64 (j:Int)] w fun e w'=>e=.returned (.tuple #[.int .i64 ((s j:Nat):Int),.int .i64 ((s j%k:Nat):Int)])∧∃q,w'=w.drewN q:=by
 have HH:=Lib.hid (fdHas_of _ (j:Int) true ⟨fun _=>by omega,fun _=>rfl⟩ (fdLen_any h))
 have H:=Lib.hid h
 obtain ⟨M,hM⟩:∃M,s j%k=M:=⟨_,rfl⟩
 obtain ⟨p,hp⟩:∃p,s j=p:=⟨_,rfl⟩
 have hpn:p < n:=by rw [←hp];exact h.sa.1 j hj
 have hMp:M≤p:=by rw [←hM,←hp];exact Nat.mod_le _ _
 have hn:=h.few
 have HM:=Lib.hid (And.intro hM hp)
 rw [hM,hp]
 clear h hM hp
 go_enter Tryz.func65,Tryz.ntmps65
 go_wp2_with (go_at_call 109;(with_reducible refine HH.out.mono ?_);rintro e w' ⟨rfl,rfl⟩)
 go_loopw [1,6] (fun u v wr=>∃d i q:Nat,d≤M∧u=.int .i64 (i:Int)∧v=.int .i64 (d:Int)∧Hid (lfK T n s d j=i)∧wr=w.drewN q) (fun _ v _=>M - (intOf v).toNat)
 case atStart=>exact ⟨0,j,0,Nat.zero_le _,rfl,rfl,Lib.hid rfl,rfl⟩
 case round=>
  clear HH
  obtain ⟨d,i,q,hd,rfl,rfl,hi,rfl⟩:=hrel
  have hFd:=H.out.drewN q
  obtain ⟨hin,hsi⟩:=lfK_at H.out.once H.out.sa hj d (by rw [HM.out.2];omega)
  rw [hi.out] at hin hsi
  rw [HM.out.2] at hsi
  have hAt:=at_in hFd.marked i hin
  have c4:=hFd.c4
  have c5:=H.out.c5
  have c1:=H.out.c1
  have c4':=H.out.c4
  by_cases hlt:d < M
  · have hb:mkB s k i=false:=by
     unfold mkB
     rw [hsi]
     exact decide_eq_false (mult_less (by have:=H.out.step.1;omega) (by rw [←HM.out.2,HM.out.1];exact hlt))
    rw [hb] at hAt
    have HAt:=Lib.hid hAt
    obtain ⟨i2,hi2⟩:∃i2,lfF T n s i=i2:=⟨_,rfl⟩
    have hAh:=fdAhead_any hFd i hin
    rw [hi2] at hAh
    have HAh:=Lib.hid hAh
    have HI:Hid (lfK T n s (d+1) j=i2):=Lib.hid (by show lfF T n s (lfK T n s d j)=i2;rw [hi.out,hi2])
    clear hAt hAh hi2 hb hsi hFd hi c5 c1 c4'
    go_wp2_with (first
     | (go_at_call 110;(with_reducible refine HAt.out.mono ?_);rintro e w' ⟨rfl,rfl⟩)
     | (go_at_call 108;(with_reducible refine HAh.out.mono ?_);rintro e w' ⟨rfl,q2,rfl⟩))
    go_roundw
    case rel=>exact ⟨d+1,i2,q+q2,by omega,rfl,by go_num,HI,rfl⟩
    case measure=>simp [intOf];omega
  · obtain rfl:d=M:=by omega
    have hml:=mult_last p k
    have hpm:p%k=d:=by rw [←HM.out.2];exact HM.out.1
    rw [hpm] at hml
    have hb:mkB s k i=true:=by
     unfold mkB
     rw [hsi]
     exact decide_eq_true hml.1
    rw [hb] at hAt
    have HAt:=Lib.hid hAt
    obtain ⟨r,hr⟩:∃r,cnt (mkB s k) i=r:=⟨_,rfl⟩
    have hrn:r < cnt (mkB s k) n:=by
     have h1:=cnt_mono_ (f:=mkB s k) (show i+1≤n by omega)
     rw [cnt_succ,if_pos hb,hr] at h1
     omega
    have hX:=H.out.mult i hin (by rw [hsi];exact hml.1)
    rw [hr,hsi] at hX
    obtain ⟨x,hx⟩:∃x,(p - d) / k=x:=⟨_,rfl⟩
    rw [hx] at hX hml
    have HR:∀t,Hid (Calls Tryz.prog 111 #[.pointer (some ⟨a.gk,0,none⟩),.int .i64 (i:Int)] (w.drewN (q+t)) fun e w'=>e=.returned (.int .i64 (r:Int))∧∃j,w'=w.drewN (q+j)):=fun t=>Lib.hid (by
     have:=rank_any (H.out.drewN (q+t)).marked (i:Int)
     rw [Pl.clamp_nat (by omega),hr] at this
     exact this.mono fun _ _ hh=>⟨hh.1,t,hh.2.symm⟩)
    have HG:∀t,Hid (Calls Tryz.prog 107 #[.pointer (some ⟨a.gp,0,none⟩),.int .i64 (r:Int)] (w.drewN (q+t)) fun e w'=>e=.returned (.int .u64 (x:Int))∧∃j,w'=w.drewN (q+j)):=fun t=>Lib.hid (by
     have:=(H.out.drewN (q+t)).places.get r hrn
     rw [hX] at this
     exact this.mono fun _ _ hh=>⟨hh.1,t,hh.2.symm⟩)
    have hxk:x*k+d=p:=hml.2
    obtain ⟨y,hy⟩:∃y,x*k=y:=⟨_,rfl⟩
    rw [hy] at hxk
    have hxy:x≤y:=by rw [←hy];exact Nat.le_mul_of_pos_right _ (by have:=H.out.step.1;omega)
    have e1:IntKind.i64.wrap (x:Int)=(x:Int):=IntWalk.i64_in _ (by omega)
    have e2:IntKind.i64.wrap ((x:Int)*(k:Int))=(y:Int):=by
     rw [←Int.natCast_mul,hy]
     exact IntWalk.i64_in _ (by omega)
    have e3:IntKind.i64.wrap ((y:Int)+(d:Int))=(p:Int):=by rw [IntWalk.i64_in _ (by omega)];omega
    clear hAt hb hsi hFd hi hX hx hml hr hrn hy hpm hxk
    go_wp2_with (go_at_call 110;(with_reducible refine HAt.out.mono ?_);rintro e w' ⟨rfl,rfl⟩)
    go_quiet ((first
     | (go_at_call 111;with_reducible exact (HR _).out)
     | (go_at_call 107;with_reducible exact (HG _).out)))
    go_wp2_with fail
    go_ret2
    exact ⟨ret2_i64 (by first | rfl | exact e3 | omega) rfl,_,by rw [World.drewN_drewN]⟩
end
end Go.Proofs.YtcidobpbepeakaaGreat
