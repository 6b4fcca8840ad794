/- Texts of ours, joined: TalAny. -/
import Derived.Test.YtcidobpbepeakaaGreatB14
import Derived.Test.YtcidobpbepeakaaGreatB24
import Derived.Test.YtcidobpbepeakaaGreatB18
import Derived.Test.YtcidobpbepeakaaGreatB17
set_option maxRecDepth 1000000
set_option maxHeartbeats 6400000
namespace Go.Proofs.YtcidobpbepeakaaGreat
open Go.RowKit
open Pl (cnt cnt_succ cnt_congr sel)
def bgT (d:Nat→Nat) (m:Nat):Nat:=m+sumD d 0 m
theorem bgT_zero (d:Nat→Nat):bgT d 0=0:=rfl
theorem bgT_succ (d:Nat→Nat) (m:Nat):bgT d (m+1)=bgT d m+d m+1:=by
 show (m+1)+(sumD d 0 m+d (0+m))=m+sumD d 0 m+d m+1
 rw [Nat.zero_add]
 omega
theorem bgT_mono (d:Nat→Nat) {a b:Nat} (h:a≤b):bgT d a≤bgT d b:=by
 induction b with
 | zero=>obtain rfl:a=0:=by omega
         exact Nat.le_refl _
 | succ b ih=>
   by_cases e:a=b+1
   · rw [e];exact Nat.le_refl _
   · have:=ih (by omega)
     rw [bgT_succ]
     omega
def ntB (d:Nat→Nat):Nat→Nat→Bool
 | 0,_=>false
 | m+1,j=>ntB d m j || decide (j=bgT d m+d m)
theorem ntB_above (d:Nat→Nat):∀ {m j:Nat},bgT d m≤j→ntB d m j=false
 | 0,_,_=>rfl
 | m+1,j,h=>by
   rw [bgT_succ] at h
   unfold ntB
   rw [ntB_above d (m:=m) (j:=j) (by omega),decide_eq_false (by omega)]
   rfl
theorem ntB_at (d:Nat→Nat) (m:Nat):ntB d (m+1) (bgT d m+d m)=true:=by
 unfold ntB
 rw [decide_eq_true rfl,Bool.or_true]
theorem ntB_none (d:Nat→Nat) {m j:Nat} (h1:bgT d m≤j) (h2:j < bgT d m+d m):ntB d (m+1) j=false:=by
 unfold ntB
 rw [ntB_above d h1,decide_eq_false (by omega)]
 rfl
theorem ntB_more (d:Nat→Nat) {m j:Nat} (h:j < bgT d m):∀k,ntB d (m+k) j=ntB d m j
 | 0=>rfl
 | k+1=>by
   have:=bgT_mono d (show m≤m+k by omega)
   show (ntB d (m+k) j || decide (j=bgT d (m+k)+d (m+k)))=_
   rw [ntB_more d h k,decide_eq_false (by omega),Bool.or_false]
theorem ntB_up (d:Nat→Nat) {m n j:Nat} (hm:m≤n) (h:j < bgT d m):ntB d n j=ntB d m j:=by
 obtain ⟨k,rfl⟩:∃k,n=m+k:=⟨n - m,by omega⟩
 exact ntB_more d h k
theorem cnt_nt (d:Nat→Nat):∀m,cnt (ntB d m) (bgT d m)=m∧cnt (ntB d (m+1)) (bgT d m+d m)=m
 | m=>by
   have hA:cnt (ntB d m) (bgT d m)=m:=by
    cases m with
    | zero=>rfl
    | succ m=>
      rw [bgT_succ,cnt_succ,ntB_at,(cnt_nt d m).2]
      rfl
   refine ⟨hA,?_⟩
   rw [Pl.cnt_add,cnt_congr (g:=ntB d m) (fun j hj=>ntB_up d (Nat.le_succ m) hj),hA,Pl.cnt_zero (fun j hj=>ntB_none d (by omega) (by omega))]
   rfl
theorem sel_nt (d:Nat→Nat) {m n:Nat} (h:m < n):sel (ntB d n) (bgT d n) (m:Int)=((bgT d m+d m:Nat):Int):=by
 have h1:bgT d (m+1)≤bgT d n:=bgT_mono d h
 have h2:=bgT_succ d m
 have hc:cnt (ntB d n) (bgT d m+d m)=m:=by
  rw [cnt_congr (g:=ntB d (m+1)) (fun j hj=>ntB_up d (m:=m+1) h (by omega)),(cnt_nt d m).2]
 have ht:ntB d n (bgT d m+d m)=true:=by rw [ntB_up d (m:=m+1) h (by omega),ntB_at]
 have:=Pl.sel_in (n:=bgT d n) (f:=ntB d n) (show bgT d m+d m < bgT d n by omega) ht
 rw [hc] at this
 exact this
def onD (d:Nat→Nat) (n j:Nat):Nat:=if ntB d n j=true then 0 else 1
theorem inv_on (d:Nat→Nat) (n:Nat):inv (fun j=>(onD d n j).testBit 0)=ntB d n:=by
 funext j
 show (!(onD d n j).testBit 0)=_
 unfold onD
 cases ntB d n j <;> rfl
theorem cnt_on (d:Nat→Nat) (n:Nat):cnt (fun j=>(onD d n j).testBit 0) (bgT d n)=sumD d 0 n:=by
 have h1:=Pl.cnt_not (fun j=>(onD d n j).testBit 0) (bgT d n)
 have h2:cnt (fun j=>!(onD d n j).testBit 0) (bgT d n)=n:=by
  have:=(cnt_nt d n).1
  rw [←inv_on] at this
  exact this
 rw [h2] at h1
 unfold bgT at h1 ⊢
 omega
theorem upto_nt (d:Nat→Nat) {k n:Nat} {x:Int} (hx:x+1=(k:Int)) (hk:k≤n):sel (ntB d n) (bgT d n) x - x=((sumD d 0 k:Nat):Int):=by
 cases k with
 | zero=>
   rw [Pl.sel_out (.inl (by omega))]
   show -1 - x=0
   omega
 | succ m=>
   obtain rfl:x=(m:Int):=by omega
   rw [sel_nt d hk]
   show ((bgT d m+d m:Nat):Int) - (m:Int)=((sumD d 0 m+d (0+m):Nat):Int)
   rw [Nat.zero_add]
   unfold bgT
   omega
theorem sumD_cut (f:Nat→Nat) (a:Nat):∀k,sumD f 0 (a+k)=sumD f 0 a+sumD f a k
 | 0=>rfl
 | k+1=>by
   show sumD f 0 (a+k)+f (0+(a+k))=_
   rw [sumD_cut f a k,Nat.zero_add]
   show _=sumD f 0 a+(sumD f a k+f (a+k))
   omega
structure Tl (w:World) (B g gv gw:Nat) (av:Value) (ws:List Nat) (n:Nat) (d:Nat→Nat):Prop where
 head:Lies w g 155 [.pointer (some ⟨gv,0,none⟩)]
 vec:Vc w B gv gw av (bgT d n) ws (fun j=>(onD d n j).testBit 0)
 lo:B≤g
 few:bgT d n≤4194304
section
variable {w w':World} {B g gv gw n:Nat} {av:Value} {ws:List Nat} {d:Nat→Nat}
theorem Tl.keepB (h:Tl w B g gv gw av ws n d) (hs:w.heap.size≤w'.heap.size) (hb:∀k,B≤k→k < w.heap.size→w'.heap[k]?=w.heap[k]?):Tl w' B g gv gw av ws n d:=
 ⟨h.head.same (hb g h.lo h.head.lt),h.vec.keepB hs hb,h.lo,h.few⟩
theorem Tl.keep (h:Tl w B g gv gw av ws n d) (hb:Below w.heap.size w w'):Tl w' B g gv gw av ws n d:=h.keepB hb.size fun k _ hk=>hb.block k hk
theorem tlPlaces_any (h:Tl w B g gv gw av ws n d):Calls Tryz.prog 58 #[.pointer (some ⟨g,0,none⟩)] w fun e w'=>e=.returned (.int .i64 (n:Int))∧∃k,w'=w.drewN k:=by
 have c0:w.cell? ⟨g,0,none⟩=some (.pointer (some ⟨gv,0,none⟩)):=h.head.cell 0
 have HL:∀k,Hid (Calls Tryz.prog 99 #[.pointer (some ⟨gv,0,none⟩)] (w.drewN k) fun e w'=>e=.returned (.int .i64 ((bgT d n:Nat):Int))∧w.drewN k=w'):=fun k=>Lib.hid (vlen_any (h.vec.drewN k))
 have HO:∀k,Hid (Calls Tryz.prog 100 #[.pointer (some ⟨gv,0,none⟩)] (w.drewN k) fun e w'=>e=.returned (.int .i64 ((sumD d 0 n:Nat):Int))∧w.drewN k=w'):=fun k=>by
  have HO:=vones_any (h.vec.drewN k)
  rw [cnt_on] at HO
  exact Lib.hid HO
 have hf:=h.few
 have e0:((bgT d n:Nat):Int) - ((sumD d 0 n:Nat):Int)=(n:Int):=by unfold bgT;omega
 have hs:sumD d 0 n≤4194304:=by unfold bgT at hf;omega
 clear h
 go_enter Tryz.func58,Tryz.ntmps58
 go_wp2_with fail
 go_quiet (first | (go_at_call 99;exact quiet_keep (HL _).out) | (go_at_call 100;exact quiet_keep (HO _).out))
 go_wp2_with fail
 go_ret
 exact ⟨rfl,_,rfl⟩
theorem tlUpTo_any (h:Tl w B g gv gw av ws n d) (k:Nat) (x:Int) (hx:x+1=(k:Int)) (hk:k≤n):Calls Tryz.prog 59 #[.pointer (some ⟨g,0,none⟩),.int .i64 x] w fun e w'=>e=.returned (.int .i64 ((sumD d 0 k:Nat):Int))∧Below w.heap.size w w':=by
 have c0:w.cell? ⟨g,0,none⟩=some (.pointer (some ⟨gv,0,none⟩)):=h.head.cell 0
 have HZ:=selectZero_any h.vec x
 rw [inv_on] at HZ
 have e0:=upto_nt d hx hk
 have hf:=h.few
 have hs:sumD d 0 k≤4194304:=by
  have:=bgT_mono d hk
  unfold bgT at this hf
  omega
 obtain ⟨z,hz⟩:∃z,sel (ntB d n) (bgT d n) x=z:=⟨_,rfl⟩
 rw [hz] at HZ e0
 have HZ:=Lib.hid HZ
 obtain ⟨s,hs2⟩:∃s:Nat,sumD d 0 k=s:=⟨_,rfl⟩
 rw [hs2] at e0 hs ⊢
 have hn:n≤4194304:=by unfold bgT at hf;omega
 clear h hz hs2
 go_enter Tryz.func59,Tryz.ntmps59
 go_wp2_with (go_at_call 101;refine HZ.out.mono ?_;rintro e w1 ⟨rfl,hb⟩)
 go_ret
 exact ⟨rfl,hb⟩
theorem tlDocs_in (h:Tl w B g gv gw av ws n d) (x y:Nat) (hxy:x < y) (hy:y≤n):Calls Tryz.prog 34 #[.pointer (some ⟨g,0,none⟩),.int .i64 (x:Int),.int .i64 (y:Int)] w fun e w'=>e=.returned (.int .i64 (((y:Int) - (x:Int)) - ((sumD d (x+1) (y - x - 1):Nat):Int)))∧Below w.heap.size w w':=by
 have HT:=Lib.hid h
 have hf:=h.few
 have hn:n≤4194304:=by unfold bgT at hf;omega
 have hsum:=sumD_cut d (x+1) (y - x - 1)
 rw [show x+1+(y - x - 1)=y by omega] at hsum
 have hs:sumD d 0 y≤4194304:=by
  have:=bgT_mono d hy
  unfold bgT at this hf
  omega
 have HP:=Lib.hid (tlPlaces_any h)
 have HA:Hid (∀wx,Below w.heap.size w wx→Calls Tryz.prog 59 #[.pointer (some ⟨g,0,none⟩),.int .i64 ((y:Int) - 1)] wx fun e w'=>e=.returned (.int .i64 ((sumD d 0 y:Nat):Int))∧Below wx.heap.size wx w'):=Lib.hid fun wx hb=>tlUpTo_any (HT.out.keep hb) y ((y:Int) - 1) (by omega) hy
 have HB:Hid (∀wx,Below w.heap.size w wx→Calls Tryz.prog 59 #[.pointer (some ⟨g,0,none⟩),.int .i64 (x:Int)] wx fun e w'=>e=.returned (.int .i64 ((sumD d 0 (x+1):Nat):Int))∧Below wx.heap.size wx w'):=Lib.hid fun wx hb=>tlUpTo_any (HT.out.keep hb) (x+1) (x:Int) (by omega) (by omega)
 obtain ⟨a,ha⟩:∃a:Nat,sumD d 0 (x+1)=a:=⟨_,rfl⟩
 obtain ⟨b,hb⟩:∃b:Nat,sumD d 0 y=b:=⟨_,rfl⟩
 obtain ⟨c,hc⟩:∃c:Nat,sumD d (x+1) (y - x - 1)=c:=⟨_,rfl⟩
 rw [ha] at HB hsum
 rw [hb] at HA hsum hs
 rw [hc] at hsum
 rw [hc]
 have e0:(b:Int) - (a:Int)=(c:Int):=by omega
 have g1:¬(n:Int) < (y:Int):=by omega
 clear h ha hb hc hsum
 go_enter Tryz.func34,Tryz.ntmps34
 go_wp2_with (first
  | (go_at_call 58;refine HP.out.mono ?_;rintro e w' ⟨rfl,k,rfl⟩;have hb0:Below w.heap.size w (w.drewN k):=below_drewN' (Below.refl _ _) k)
  | (go_at_call 59;(with_reducible refine (HA.out _ hb0).mono ?_);rintro e w1 ⟨rfl,hb1x⟩;have hb1:=hb0.trans (hb1x.mono hb0.size);clear hb1x)
  | (go_at_call 59;(with_reducible refine (HB.out _ hb1).mono ?_);rintro e w2 ⟨rfl,hb2⟩))
 go_ret
 exact ⟨rfl,hb1.trans (hb2.mono hb1.size)⟩
theorem tlDocs_out (v:Value) (x y:Int) (n:Nat) (hi:¬(0≤x∧x < y∧y≤(n:Int))) (HP:Calls Tryz.prog 58 #[v] w fun e w'=>e=.returned (.int .i64 (n:Int))∧∃k,w'=w.drewN k):Calls Tryz.prog 34 #[v,.int .i64 x,.int .i64 y] w fun e w'=>e=.returned (.int .i64 0)∧Below w.heap.size w w':=by
 have HP:=Lib.hid HP
 by_cases h0:x < 0
 · go_enter Tryz.func34,Tryz.ntmps34
   go_wp2_with (go_at_call 58;refine HP.out.mono ?_;rintro e w' ⟨rfl,k,rfl⟩;have hb0:Below w.heap.size w (w.drewN k):=below_drewN' (Below.refl _ _) k)
   go_ret
   first | exact ⟨rfl,hb0⟩ | exact ⟨rfl,Below.refl _ _⟩
 · by_cases h1:y≤x
   · clear hi
     go_enter Tryz.func34,Tryz.ntmps34
     go_wp2_with (go_at_call 58;refine HP.out.mono ?_;rintro e w' ⟨rfl,k,rfl⟩;have hb0:Below w.heap.size w (w.drewN k):=below_drewN' (Below.refl _ _) k)
     go_ret
     first | exact ⟨rfl,hb0⟩ | exact ⟨rfl,Below.refl _ _⟩
   · have h2:(n:Int) < y:=by omega
     clear hi
     go_enter Tryz.func34,Tryz.ntmps34
     go_wp2_with (go_at_call 58;refine HP.out.mono ?_;rintro e w' ⟨rfl,k,rfl⟩;have hb0:Below w.heap.size w (w.drewN k):=below_drewN' (Below.refl _ _) k)
     go_ret
     first | exact ⟨rfl,hb0⟩ | exact ⟨rfl,Below.refl _ _⟩
end
theorem vc_lower {w:World} {B B' g gw n:Nat} {av:Value} {ws:List Nat} {f:Nat→Bool} (h:Vc w B g gw av n ws f) (hB:B'≤B):Vc w B' g gw av n ws f:=
 ⟨h.head,h.body,fun k hk=>by
   obtain ⟨ga,c,e,h1,h2,h3⟩:=h.row k hk
   exact ⟨ga,c,e,Nat.le_trans hB h1,h2,h3⟩,h.bits,Nat.le_trans hB h.lo.1,Nat.le_trans hB h.lo.2⟩
theorem full_same {w:World} {g gs width n:Nat} {ws:List Nat} {x y:Nat→Nat} (h:Full w g gs width n ws x) (e:∀i,i < n→x i=y i):Full w g gs width n ws y:=
 ⟨h.pk,⟨h.holds.w1,h.holds.w64,h.holds.len,h.holds.small,fun i hi=>by rw [←e i hi];exact h.holds.fits i hi,fun i j hi hj=>by rw [←e i hi];exact h.holds.bits i j hi hj,h.holds.behind⟩,h.few⟩
theorem dblT_none {D L:Nat→Int} {i:Nat} (h:lastD D i < 0) (q:Nat):dblT D L (i+1) q=dblT D L i q:=by
 rw [dblT_succ,laidT_none h,if_neg (by omega),Nat.add_zero]
theorem laid_least {D L:Nat→Int} {i n p:Nat} (h:lastD D i=(p:Int)) (hi:i < n):∃q:Nat,q≤i∧laidT D L i=(q:Int)∧lstR L ((p:Int)+1) ((i:Int)+1) n=(q:Int):=by
 obtain ⟨q,h1,h2⟩:=laidT_is (L:=L) h
 have hhi:=h2.hi
 refine ⟨q,by omega,h1,lstR_at ⟨by omega,h2.lo,h2.hi,fun j hj g1 g2=>h2.le j (by omega) g1 g2,fun j hj g1 g2=>h2.first j hj g1 g2⟩⟩
theorem again_none {D:Nat→Int} {i:Nat} (h:lastD D i < 0):againT D (i+1)=againT D i:=by
 rw [againT_succ,if_neg (by omega),Nat.add_zero]
theorem again_one {D:Nat→Int} {i p:Nat} (h:lastD D i=(p:Int)):againT D (i+1)=againT D i+1:=by
 rw [againT_succ,if_pos (by omega)]
theorem again_le (D:Nat→Int) (i:Nat):againT D i≤i:=Pl.cnt_le _ i
def dbzI (D L:Nat→Int) (m:Nat):Nat→Int:=fun q=>((dblT D L m q:Nat):Int)
theorem dbzI_none {D L:Nat→Int} {i:Nat} (h:lastD D i < 0):dbzI D L (i+1)=dbzI D L i:=funext fun q=>by
 unfold dbzI
 rw [dblT_none h]
theorem dbzI_one {D L:Nat→Int} {i q:Nat} (h:laidT D L i=(q:Int)):(fun k=>if k=q then dbzI D L i q+1 else dbzI D L i k)=dbzI D L (i+1):=funext fun k=>by
 show (if k=q then ((dblT D L i q:Nat):Int)+1 else ((dblT D L i k:Nat):Int))=((dblT D L (i+1) k:Nat):Int)
 rw [dblT_succ,h]
 by_cases e:k=q
 · rw [if_pos e,e,if_pos rfl]
   push_cast
   rfl
 · rw [if_neg e,if_neg (by omega),Nat.add_zero]
theorem tlLaid_any (A:Option Addr) (n c:Nat) (D:Nat→Int) (A':Option Addr) (c':Nat) (L:Nat→Int) (w:World) (hn:n≤2097152) (ho:ItsR w A n c D) (ho':ItsR w A' n c' L):
    Calls Tryz.prog 96 #[.slice A n c,.slice A' n c'] w fun e w'=>(∃G:Nat,e=.returned (.tuple #[.slice (some ⟨G,0,none⟩) n n,.int .i64 ((againT D n:Nat):Int),.int .i64 0])∧w.heap.size≤G∧Lies w' G 3 (icells (dbzI D L n) n))∧Below w.heap.size w w':=by
 have HN:=Lib.hid (rmq_any.new A' n c' L w (by omega) ho')
 have HO:=Lib.hid ho
 clear ho ho'
 go_enter Tryz.func96,Tryz.ntmps96
 go_wp2_with fail
 refine HN.out.mono ?_
 rintro e w1 ⟨⟨v,rfl,hAt⟩,hb1⟩
 obtain ⟨pa,rfl⟩:=rmq_any.ptr hAt
 obtain ⟨B,hB⟩:∃B,w.heap.size=B:=⟨_,rfl⟩
 rw [hB] at hAt
 have HAt1:=Lib.hid hAt
 have HB1:=Lib.hid hb1
 have hMk:=make_ints0 w1 n (by omega)
 have l2:=lies_new w1 3 (icells (fun _=>0) n)
 have hk2:Below w1.heap.size w1 (w1.alloc (.cells (icells (fun _=>0) n).toArray 3)):=(Below.refl _ _).alloc (Nat.le_refl _) _
 obtain ⟨w2,hw2⟩:∃w2,w1.alloc (.cells (icells (fun _=>0) n).toArray 3)=w2:=⟨_,rfl⟩
 rw [hw2] at hMk l2 hk2
 have hT2:Hid (ItsR w2 A n c D):=Lib.hid ((HO.out.below hb1).below hk2)
 have HBk:=Lib.hid (docBack_lies A n c D w2 (by omega) hT2.out)
 obtain ⟨G,hG⟩:∃G,w1.heap.size=G:=⟨_,rfl⟩
 rw [hG] at hMk l2 hk2
 have hG1:=Lib.hid hG
 have hwG:w.heap.size≤G:=by rw [←hG];exact hb1.size
 have HL2:=Lib.hid l2
 have HK2:=Lib.hid hk2
 clear hb1 hk2 hw2 hAt l2 HN hG hB
 go_wp2_with fail
 refine HBk.out.mono ?_
 rintro e w3 ⟨rfl,l3,hb3⟩
 obtain ⟨H,hH⟩:∃H,w2.heap.size=H:=⟨_,rfl⟩
 have hGH:G < H:=by rw [←hH];exact HL2.out.lt
 have H0:Hid (Lies w3 G 3 (icells (dbzI D L 0) n)):=Lib.hid (HL2.out.below hb3 HL2.out.lt)
 have HB3:Hid (Below G w1 w3):=Lib.hid (HK2.out.trans (hb3.mono (by rw [←hG1.out];exact HK2.out.size)))
 rw [hH] at l3
 rw [hH]
 have HI3:=Lib.hid l3
 clear l3 hb3 HBk hT2 HL2 HK2 hMk hH
 go_wp2_with fail
 go_loopw [10,27] (fun u v wr=>∃i:Nat,i≤n∧u=.int .i64 ((againT D i:Nat):Int)∧v=.int .i64 (i:Int)∧Hid (Lies wr G 3 (icells (dbzI D L i) n))∧Hid (Lies wr H 3 (icells (lastD D) n))∧Hid (Below G w1 wr)) (fun _ v _=>n - (intOf v).toNat)
 case atStart=>exact ⟨0,Nat.zero_le _,rfl,rfl,H0,HI3,HB3⟩
 case round=>
  clear H0 HI3 HB3
  obtain ⟨i,hi,rfl,rfl,hU,hI,hb⟩:=hrel
  by_cases hlt:i < n
  · have hlti:(i:Int) < (n:Int):=by omega
    have hc:wr.cell? ⟨H,i,none⟩=some (.int .i64 (lastD D i)):=by rw [hI.out.cell];exact icells_at _ _ _ hlt
    have hro:=lastD_room D i
    by_cases hz:lastD D i < 0
    · have hd:=dbzI_none (L:=L) hz
      have ha:=again_none hz
      obtain ⟨z,hz2⟩:∃z,lastD D i=z:=⟨_,rfl⟩
      rw [hz2] at hc hz hro
      have HD:=Lib.hid (And.intro hd ha)
      have hz3:¬0≤z:=by omega
      clear hd ha hz2
      go_wp2_with fail
      go_roundw
      case rel=>exact ⟨i+1,by omega,by rw [HD.out.2],by go_num,by rw [HD.out.1];exact hU,hI,hb⟩
      case measure=>simp [intOf];omega
    · obtain ⟨p,hp⟩:∃p:Nat,lastD D i=(p:Int):=⟨(lastD D i).toNat,by omega⟩
      obtain ⟨q,hq,hq1,hq2⟩:=laid_least (L:=L) hp hlt
      have hd:=dbzI_one hq1
      have ha:=again_one hp
      have HE:=rmq_any.least B (.pointer (some pa)) n L ((p:Int)+1) ((i:Int)+1) wr (WalkArith.wf_i64 (by omega)) (WalkArith.wf_i64 (by omega)) (rmq_any.keep HAt1.out (by rw [hG1.out];exact hb.out))
      rw [hq2] at HE
      have HE:=Lib.hid HE
      have hal:=again_le D i
      obtain ⟨m,hm⟩:∃m,againT D i=m:=⟨_,rfl⟩
      have hul:=dblT_le D L i q
      obtain ⟨u,hu⟩:∃u:Nat,dblT D L i q=u:=⟨_,rfl⟩
      have hUq:dbzI D L i q=(u:Int):=by unfold dbzI;rw [hu]
      rw [hUq] at hd
      rw [hm] at ha hal ⊢
      rw [hu] at hul
      rw [hp] at hc
      have HD:=Lib.hid (And.intro hd ha)
      have HU:=Lib.hid hUq
      have hp0:0≤(p:Int):=by omega
      have hp1:p < i:=by omega
      have hqn:q < n:=by omega
      clear hd ha hp hz hq1 hq2 hm hu hUq hro
      go_wp2_with fail
      refine HE.out.mono ?_
      rintro e w4 ⟨rfl,hb4⟩
      have l4:Lies w4 G 3 (icells (dbzI D L i) n):=hU.out.below hb4 hU.out.lt
      have k4:Lies w4 H 3 (icells (lastD D) n):=hI.out.below hb4 hI.out.lt
      have hcell:w4.cell? ⟨G,q,none⟩=some (.int .i64 (u:Int)):=by
       rw [l4.cell,←HU.out]
       exact icells_at _ _ _ hqn
      have hfree:=l4.free q
      have HU2:Hid (Lies (w4.setCell ⟨G,q,none⟩ (.int .i64 ((u:Int)+1))) G 3 (icells (dbzI D L (i+1)) n)):=Lib.hid (by
       have:=l4.put q (.int .i64 ((u:Int)+1))
       rw [icells_put,HD.out.1] at this
       exact this)
      have HI2:Hid (Lies (w4.setCell ⟨G,q,none⟩ (.int .i64 ((u:Int)+1))) H 3 (icells (lastD D) n)):=Lib.hid (k4.far (p:=⟨G,q,none⟩) (by show H≠G;omega) _)
      have HB5:Hid (Below G w1 (w4.setCell ⟨G,q,none⟩ (.int .i64 ((u:Int)+1)))):=Lib.hid ((below_up hG1.out hb.out hb4).setCell (p:=⟨G,q,none⟩) (Nat.le_refl _) _)
      clear l4 k4 hb4 HE hU hI hb HU
      go_wp2_with fail
      go_roundw
      case rel=>exact ⟨i+1,by omega,by rw [HD.out.2];go_num,by go_num,HU2,HI2,HB5⟩
      case measure=>simp [intOf];omega
  · obtain rfl:i=n:=by omega
    have hge:¬(i:Int) < (i:Int):=by omega
    go_wp2_with fail
    refine bodyPost_ret (v:=.tuple #[.slice (some ⟨G,0,none⟩) i i,.int .i64 ((againT D i:Nat):Int),.int .i64 0]) (by simp [results,Tryz.results96,go_sem]) rfl ?_
    exact ⟨⟨G,rfl,hwG,hU.out⟩,HB1.out.trans (hb.out.mono hwG)⟩
def MkT (w:World) (gp gps N:Nat) (d:Nat→Nat) (n a:Nat):Prop:=∃(ws:List Nat) (x:Nat→Nat),Full w gp gps 1 N ws x∧∀j,j < N→x j=if j < a then onD d n j else 0
theorem MkT.nought {w:World} {gp gps N:Nat} {d:Nat→Nat} {n a:Nat} (h:MkT w gp gps N d n a) (ha:onD d n a=0):MkT w gp gps N d n (a+1):=by
 obtain ⟨ws,x,h1,h2⟩:=h
 refine ⟨ws,x,h1,fun j hj=>?_⟩
 rw [h2 j hj]
 by_cases e:j=a
 · rw [e,ha,if_neg (Nat.lt_irrefl a),if_pos (Nat.lt_succ_self a)]
 · by_cases l:j < a
   · rw [if_pos l,if_pos (by omega)]
   · rw [if_neg l,if_neg (by omega)]
def MarkPostT (w:World) (d:Nat→Nat) (n:Nat) (e:Ending) (w':World):Prop:=∃(gp gps:Nat) (ws:List Nat),e=.returned (.tuple #[.pointer (some ⟨gp,0,none⟩),.int .i64 0])∧w.heap.size≤gp∧w.heap.size≤gps∧Full w' gp gps 1 (bgT d n) ws (onD d n)∧Below w.heap.size w w'
theorem onD_end (d:Nat→Nat) {i n:Nat} (h:i < n):onD d n (bgT d i+d i)=0:=by
 have:=bgT_succ d i
 unfold onD
 rw [ntB_up d (m:=i+1) h (by omega),ntB_at,if_pos rfl]
theorem onD_one (d:Nat→Nat) {i n k:Nat} (h:i < n) (hk:k < d i):onD d n (bgT d i+k)=1:=by
 have:=bgT_succ d i
 unfold onD
 rw [ntB_up d (m:=i+1) h (by omega),ntB_none d (by omega) (by omega),if_neg (by decide)]
theorem tlMarked_any (G n S:Nat) (d:Nat→Nat) (w:World) (hl:Lies w G 3 (icells (fun q=>((d q:Nat):Int)) n)) (hS:sumD d 0 n=S) (hf:bgT d n≤4194304):
    Calls Tryz.prog 97 #[.slice (some ⟨G,0,none⟩) n n,.int .i64 (S:Int)] w (MarkPostT w d n):=by
 have HL:=Lib.hid hl
 have HD:Hid (∀i,i < n→bgT d i+d i+1≤bgT d n∧bgT d (i+1)=bgT d i+d i+1):=Lib.hid fun i hi=>by
  have h1:bgT d (i+1)≤bgT d n:=bgT_mono d hi
  have h2:=bgT_succ d i
  exact ⟨by omega,h2⟩
 have e1:(n:Int)+(S:Int)=((bgT d n:Nat):Int):=by unfold bgT;omega
 have hnN:n≤bgT d n:=by unfold bgT;omega
 have hSN:S≤bgT d n:=by unfold bgT;omega
 have hz:bgT d 0=0:=bgT_zero d
 obtain ⟨N,hN⟩:∃N,bgT d n=N:=⟨_,rfl⟩
 rw [hN] at e1 hf hnN hSN HD
 have HN:Hid (Calls Tryz.prog 132 #[.int .i64 1,.int .i64 (N:Int)] w (NewFull w 1 N)):=Lib.hid (new_full 1 N (by omega) (by omega) hf w)
 have HNN:=Lib.hid hN
 have hGw:=hl.lt
 clear hl hN hS
 go_enter Tryz.func97,Tryz.ntmps97
 go_wp2_with (go_at_call 132;(with_reducible refine HN.out.mono ?_);rintro e w1 ⟨gp,gps,rfl,hg1,hg2,hb1,ws0,hF0⟩;have H0:Hid (MkT w1 gp gps N d n 0):=Lib.hid ⟨ws0,_,hF0,fun j hj=>(if_neg (Nat.not_lt_zero j)).symm⟩;have HB1:=Lib.hid hb1;have HG:=Lib.hid (And.intro hg1 hg2);clear hF0 hb1 hg1 hg2)
 go_loopw [8,24] (fun u v wr=>∃i:Nat,i≤n∧u=.int .i64 ((bgT d i:Nat):Int)∧v=.int .i64 (i:Int)∧Hid (MkT wr gp gps N d n (bgT d i))∧Hid (Below w.heap.size w wr)) (fun _ v _=>n - (intOf v).toNat)
 case atStart=>exact ⟨0,Nat.zero_le _,by rw [hz];rfl,rfl,by rw [hz];exact H0,HB1⟩
 case round=>
  clear H0 HB1
  obtain ⟨i,hi,rfl,rfl,hM,hB⟩:=hrel
  by_cases hlt:i < n
  · have hlti:(i:Int) < (n:Int):=by omega
    have hc:wr.cell? ⟨G,i,none⟩=some (.int .i64 ((d i:Nat):Int)):=by
     rw [(HL.out.below hB.out hGw).cell]
     exact icells_at _ _ _ hlt
    obtain ⟨hd1,hd2⟩:=HD.out i hlt
    have HE:=Lib.hid (onD_end d hlt)
    have HO:Hid (∀k,k < d i→onD d n (bgT d i+k)=1):=Lib.hid fun k hk=>onD_one d hlt hk
    have HA:=Lib.hid hd2
    obtain ⟨m,hm⟩:∃m,d i=m:=⟨_,rfl⟩
    obtain ⟨a,ha⟩:∃a,bgT d i=a:=⟨_,rfl⟩
    rw [hm] at hc hd1 HE HO HA
    rw [ha] at hM hd1 HE HO HA ⊢
    clear hm ha hd2
    have H0:Hid (MkT wr gp gps N d n (a+0)):=hM
    clear hM
    go_wp2_with fail
    go_loopw [8,29] (fun u v wx=>∃k:Nat,k≤m∧u=.int .i64 ((a+k:Nat):Int)∧v=.int .i64 (k:Int)∧Hid (MkT wx gp gps N d n (a+k))∧Hid (Below w.heap.size w wx)) (fun _ v _=>m - (intOf v).toNat)
    case atStart=>exact ⟨0,Nat.zero_le _,rfl,rfl,H0,hB⟩
    case round=>
     clear H0 hB hc
     rename World=>wx
     obtain ⟨k,hk,rfl,rfl,hM,hB⟩:=hrel
     by_cases hkm:k < m
     · have hkmi:(k:Int) < (m:Int):=by omega
       obtain ⟨q,hq⟩:∃q,a+k=q:=⟨_,rfl⟩
       have hq1:=HO.out k hkm
       rw [hq] at hM hq1 ⊢
       have hqN:q < N:=by omega
       obtain ⟨ws,x,hFu,hx⟩:=hM.out
       have HS:Hid (Calls Tryz.prog 133 #[.pointer (some ⟨gp,0,none⟩),.int .i64 (q:Int),.int .u64 1] wx (SetFull wx gp gps 1 N x q 1)):=Lib.hid (hFu.set_ q 1 hqN (by decide))
       have hsz:=hB.out.size
       have HX:Hid (∀j,j < N→(fun k=>if k=q then 1 else x k) j=if j < q+1 then onD d n j else 0):=Lib.hid fun j hj=>by
        show (if j=q then 1 else x j)=_
        by_cases e:j=q
        · rw [if_pos e,e,if_pos (Nat.lt_succ_self q),hq1]
        · rw [if_neg e,hx j hj]
          by_cases l:j < q
          · rw [if_pos l,if_pos (by omega)]
          · rw [if_neg l,if_neg (by omega)]
       have hqk:a+(k+1)=q+1:=by omega
       clear hFu hx hM hq1
       go_wp2_with (go_at_call 133;(with_reducible refine HS.out.mono ?_);rintro e w2 ⟨rfl,ws2,hF2,hg2⟩;have HF2:=Lib.hid hF2;have HG2:=Lib.hid hg2;clear hF2 hg2)
       go_roundw
       case rel=>exact ⟨k+1,by omega,by rw [hqk];go_num,by go_num,Lib.hid (by rw [hqk];exact ⟨ws2,_,HF2.out,HX.out⟩),Lib.hid (hB.out.trans (below_of_grownBy HG2.out HG.out.2 hsz))⟩
       case measure=>simp [intOf];omega
     · obtain rfl:k=m:=by omega
       have hge:¬(k:Int) < (k:Int):=by omega
       have HM2:Hid (MkT wx gp gps N d n (bgT d (i+1))):=Lib.hid (by rw [HA.out];exact hM.out.nought HE.out)
       have HAa:=Lib.hid HA.out
       clear hM HE HO HA
       go_wp2_with fail
       go_roundw
       case rel=>exact ⟨i+1,by omega,by rw [HAa.out];go_num,by go_num,HM2,hB⟩
       case measure=>simp [intOf];omega
  · obtain rfl:i=n:=by omega
    have hge:¬(i:Int) < (i:Int):=by omega
    go_wp2_with fail
    go_ret2
    obtain ⟨ws,x,hFu,hx⟩:=hM.out
    exact ⟨gp,gps,ws,rfl,HG.out.1,HG.out.2,by rw [HNN.out];exact full_same hFu fun j hj=>by rw [hx j hj,HNN.out,if_pos hj],hB.out⟩
def TalAt (B:Nat) (w:World) (v:Value) (n:Nat) (D L:Nat→Int):Prop:=∃(g gv gw:Nat) (av:Value) (ws:List Nat),v=.pointer (some ⟨g,0,none⟩)∧Tl w B g gv gw av ws n (dblT D L n)
theorem tlNew_any (A:Option Addr) (n c:Nat) (D:Nat→Int) (A':Option Addr) (n' c':Nat) (L:Nat→Int) (w:World) (hn:n≤2097152) (hn':n'≤2097152) (ho:ItsR w A n c D) (ho':ItsR w A' n' c' L):
    Calls Tryz.prog 57 #[.slice A n c,.slice A' n' c'] w fun e w'=>(n=n'→∃v,e=.returned (.tuple #[v,.int .i64 0])∧TalAt w.heap.size w' v n D L)∧(n≠n'→e=.returned (.tuple #[.pointer none,.int .i64 2]))∧Below w.heap.size w w':=by
 by_cases hnn:n=n'
 · subst hnn
   have HL:=Lib.hid (tlLaid_any A n c D A' c' L w hn ho ho')
   have hsum:=sum_again D L n
   have hle:=again_le D n
   have hfew:bgT (dblT D L n) n≤4194304:=by unfold bgT;rw [hsum];omega
   have g1:((n:Int) != (n:Int))=false:=by simp
   have g2:decide ((2097152:Int) < (n:Int))=false:=decide_eq_false (by omega)
   have g3:¬(2097152:Int) < (n:Int):=by omega
   clear ho ho'
   go_enter Tryz.func57,Tryz.ntmps57
   go_wp2_with fail
   refine HL.out.mono ?_
   rintro e w1 ⟨⟨G,rfl,hG,hl⟩,hb1⟩
   have HM:=Lib.hid (tlMarked_any G n (againT D n) (dblT D L n) w1 hl hsum hfew)
   have HB1:=Lib.hid hb1
   have hb1s:=hb1.size
   clear hl hb1 HL
   go_wp2_with fail
   refine HM.out.mono ?_
   rintro e w2 ⟨gp,gps,ws,rfl,hp1,hp2,hF,hb2⟩
   have HV:=Lib.hid (vnew_any hF)
   have HB2:=Lib.hid (HB1.out.trans (hb2.mono hb1s))
   have hb2s:=HB2.out.size
   clear hF hb2 HM HB1
   go_wp2_with fail
   refine HV.out.mono ?_
   rintro e w3 ⟨gv,gw,av,ws3,rfl,hV,hb3⟩
   have HV3:=Lib.hid hV
   have HB3:=Lib.hid (HB2.out.trans (hb3.mono hb2s))
   have hb3s:=HB3.out.size
   have hgv:=hV.lo
   clear hV hb3 HV HB2
   go_wp2_with fail
   go_ret2
   refine ⟨fun _=>⟨_,rfl,w3.heap.size,gv,gw,av,ws3,rfl,⟨lies_new w3 _ [.pointer (some ⟨gv,0,none⟩)],?_,hb3s,hfew⟩⟩,fun hh=>absurd rfl hh,HB3.out.alloc hb3s _⟩
   exact vc_lower (HV3.out.keep ((Below.refl _ _).alloc (Nat.le_refl _) _)) hb2s
 · have g1:((n:Int) != (n':Int))=true:=by simp;omega
   have g2:¬(n:Int)=(n':Int):=by omega
   clear ho ho'
   go_enter Tryz.func57,Tryz.ntmps57
   go_wp2_with fail
   go_ret2
   exact ⟨fun hh=>absurd hh hnn,fun _=>rfl,Below.refl _ _⟩
end Go.Proofs.YtcidobpbepeakaaGreat
