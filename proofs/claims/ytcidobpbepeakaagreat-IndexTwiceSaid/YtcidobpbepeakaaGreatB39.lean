/- Texts of ours, joined: SaRowOf SaOrd SufAny. -/
import Derived.Test.YtcidobpbepeakaaGreatB20
import Derived.Test.YtcidobpbepeakaaGreatB32
import Derived.Test.YtcidobpbepeakaaGreatB29
import Derived.Test.YtcidobpbepeakaaGreatB36
import Derived.Test.YtcidobpbepeakaaGreatB28
set_option maxRecDepth 1000000
set_option maxHeartbeats 6400000
namespace Go.Proofs.YtcidobpbepeakaaGreat
open Go.RowKit Go.Shelf
attribute [local go_sem] Oper.semAt_some
theorem four_allocs {w1:World} {s:Nat} (z1:w1.heap.size=s) (o1 o2 o3 o4:Obj):
    ((((w1.alloc o1).alloc o2).alloc o3).alloc o4).drew.heap[s]?=some o1∧((((w1.alloc o1).alloc o2).alloc o3).alloc o4).drew.heap[s+1]?=some o2∧((((w1.alloc o1).alloc o2).alloc o3).alloc o4).drew.heap[s+1+1]?=some o3∧
      ((((w1.alloc o1).alloc o2).alloc o3).alloc o4).drew.heap[s+1+1+1]?=some o4∧Below s w1 ((((w1.alloc o1).alloc o2).alloc o3).alloc o4).drew∧((((w1.alloc o1).alloc o2).alloc o3).alloc o4).drew.heap.size=s+4:=by
 have y1:(w1.alloc o1).heap.size=s+1:=by rw [size_alloc,z1]
 have y2:((w1.alloc o1).alloc o2).heap.size=s+1+1:=by rw [size_alloc,y1]
 have y3:(((w1.alloc o1).alloc o2).alloc o3).heap.size=s+1+1+1:=by rw [size_alloc,y2]
 have y4:((((w1.alloc o1).alloc o2).alloc o3).alloc o4).heap.size=s+4:=by rw [size_alloc,y3]
 have n1:=World.alloc_heap_new w1 o1
 have n2:=World.alloc_heap_new (w1.alloc o1) o2
 have n3:=World.alloc_heap_new ((w1.alloc o1).alloc o2) o3
 have n4:=World.alloc_heap_new (((w1.alloc o1).alloc o2).alloc o3) o4
 rw [z1] at n1
 rw [y1] at n2
 rw [y2] at n3
 rw [y3] at n4
 have h2:∀k,k < s+1→((w1.alloc o1).alloc o2).heap[k]?=(w1.alloc o1).heap[k]?:=fun k hk=>Below.heap_alloc _ _ _ (by omega)
 have h3:∀k,k < s+1+1→(((w1.alloc o1).alloc o2).alloc o3).heap[k]?=((w1.alloc o1).alloc o2).heap[k]?:=fun k hk=>Below.heap_alloc _ _ _ (by omega)
 have h4:∀k,k < s+1+1+1→((((w1.alloc o1).alloc o2).alloc o3).alloc o4).heap[k]?=(((w1.alloc o1).alloc o2).alloc o3).heap[k]?:=fun k hk=>Below.heap_alloc _ _ _ (by omega)
 refine ⟨(h4 s (by omega)).trans ((h3 s (by omega)).trans ((h2 s (by omega)).trans n1)),(h4 _ (by omega)).trans ((h3 _ (by omega)).trans n2),(h4 _ (by omega)).trans n3,n4,?_,y4⟩
 exact (((((Below.refl s w1).alloc (by omega) _).alloc (by omega) _).alloc (by omega) _).alloc (by omega) _).drew
theorem info_bool0:(Tryz.prog.info? 4).map (fun i=>(i.zero,i.size,i.bytes))=some (some (Value.bool false),1,1):=by kernel_rfl
theorem zero_bools (n:Nat):madeCells (Value.bool false).cells (n*1)=(blcells (fun _=>false) n).toArray:=by
 apply Array.ext'
 simp [madeCells,blcells,Value.cells,Array.toList_range]
 intro i h1
 simp [Nat.mod_one]
theorem make_ints1 (w:World) (n:Nat) (hn:n≤70000000):(Instr.makeSlice 34 (.int .i64 (n:Int)) (.int .i64 (n:Int))).run Tryz.prog w=.ok (.slice (some ⟨w.heap.size,0,none⟩) n n) (w.alloc (.cells (icells (fun _=>0) n).toArray 3)):=by
 obtain ⟨i0,hi0,hz0,hs0,hb0⟩:=info_parts info_i64
 have h:=run_make (P:=Tryz.prog) w 34 3 i0 _ Tryz.underlying34 hi0 hz0 .i64 .i64 (n:Int) (n:Int) (by omega) (Int.le_refl _) (by rw [hb0];omega) (by omega)
 rw [hs0,Int.toNat_natCast,zero_ints] at h
 exact h
theorem make_bools0 (w:World) (n:Nat) (hn:n≤4194304):(Instr.makeSlice 174 (.int .i64 (n:Int)) (.int .i64 (n:Int))).run Tryz.prog w=.ok (.slice (some ⟨w.heap.size,0,none⟩) n n) (w.alloc (.cells (blcells (fun _=>false) n).toArray 4)):=by
 obtain ⟨i0,hi0,hz0,hs0,hb0⟩:=info_parts info_bool0
 have h:=run_make (P:=Tryz.prog) w 174 4 i0 _ Tryz.underlying174 hi0 hz0 .i64 .i64 (n:Int) (n:Int) (by omega) (Int.le_refl _) (by rw [hb0];omega) (by omega)
 rw [hs0,Int.toNat_natCast,zero_bools] at h
 exact h
def cI (X:Nat→Nat) (n k y:Nat):Int:=if y=0 then 0 else ((Pl.cnt (fun p=>decide (X p=y - 1)) n - Pl.cnt (fun p=>decide (X p=y - 1)) k:Nat):Int)
def upFrom (X:Nat→Nat) (n k q:Nat):Bool:=decide (k≤q)&&up X n q
theorem cI_off {X:Nat→Nat} {n k y:Nat} (h:y≠X k+1):cI X n k y=cI X n (k+1) y:=by
 unfold cI
 by_cases h0:y=0
 · rw [if_pos h0,if_pos h0]
 · rw [if_neg h0,if_neg h0,Pl.cnt_succ,if_neg (by simp;omega)]
   rfl
theorem cI_at {X:Nat→Nat} {n k:Nat} (hk:k < n):cI X n k (X k+1)=cI X n (k+1) (X k+1)+1∧0≤cI X n (k+1) (X k+1)∧cI X n (k+1) (X k+1)≤(n:Int):=by
 have h1:=Pl.cnt_mono (fun p=>decide (X p=X k+1 - 1)) (show k+1≤n from hk)
 have h2:Pl.cnt (fun p=>decide (X p=X k+1 - 1)) (k+1)=Pl.cnt (fun p=>decide (X p=X k+1 - 1)) k+1:=by rw [Pl.cnt_succ,if_pos (by simp)]
 have h3:=cnt_to (fun p=>decide (X p=X k+1 - 1)) n
 unfold cI
 rw [if_neg (by omega),if_neg (by omega)]
 omega
theorem cI_none (X:Nat→Nat) (n y:Nat):cI X n n y=0:=by
 unfold cI
 split
 · rfl
 · rw [Nat.sub_self];rfl
theorem blcells_set (F:Nat→Bool) (n j:Nat) (x:Bool):(blcells F n).set j (.bool x)=blcells (fun i=>if i=j then x else F i) n:=by
 apply List.ext_getElem?
 intro k
 rw [List.getElem?_set]
 by_cases hk:k < n
 · by_cases h:j=k
   · subst h
     rw [if_pos rfl,if_pos (by rw [blcells_length];omega),blcells_at (fun i=>if i=j then x else F i) n j hk]
     simp
   · have h':k≠j:=fun e=>h e.symm
     simp [blcells_at _ _ _ hk,h,h']
 · rw [List.getElem?_eq_none (l:=blcells (fun i=>if i=j then x else F i) n) (by rw [blcells_length];omega)]
   split
   · rw [if_neg (by rw [blcells_length];omega)]
   · rw [List.getElem?_eq_none (by rw [blcells_length];omega)]
def hI2 (X:Nat→Nat) (n x y:Nat):Int:=if y≤x then ((hd X n y:Nat):Int) else cI X n 0 y
theorem hI2_zero {X:Nat→Nat} {n:Nat} (y:Nat):cI X n 0 y=hI2 X n 0 y:=by
 unfold hI2
 split
 · obtain rfl:y=0:=by omega
   rw [hd_zero]
   rfl
 · rfl
theorem hI2_step {X:Nat→Nat} {n x:Nat}:hI2 X n x (x+1)+hI2 X n x x=hI2 X n (x+1) (x+1)∧0≤hI2 X n x (x+1)∧hI2 X n x (x+1)≤(n:Int)∧0≤hI2 X n x x∧hI2 X n x x≤(n:Int):=by
 have h1:=cnt_below X x n
 have h2:=cnt_to (fun p=>decide (X p=x)) n
 have h3:=hd_to (X:=X) (n:=n) x
 unfold hI2 cI
 rw [if_neg (by omega),if_neg (by omega),if_pos (Nat.le_refl _),if_pos (Nat.le_refl _),Nat.add_sub_cancel]
 have h4:Pl.cnt (fun p=>decide (X p=x)) 0=0:=rfl
 rw [h4]
 unfold hd at h3 ⊢
 omega
theorem hI2_off {X:Nat→Nat} {n x y:Nat} (h:y≠x+1):hI2 X n x y=hI2 X n (x+1) y:=by
 unfold hI2
 by_cases h1:y≤x
 · rw [if_pos h1,if_pos (by omega)]
 · rw [if_neg h1,if_neg (by omega)]
structure RIn (w:World) (lo:Nat) (A:Option Addr) (n c b:Nat) (X:Nat→Nat) (g e h v:Nat) (ms:List Nat) (F:Nat→Bool) (H:Nat→Int) (W:World):Prop where
 t0:W.cell? ⟨lo,0,none⟩=some (.slice A n c)
 head:Lies W g 176 [.slice A n c,.slice (some ⟨e,0,none⟩) n n,.slice (some ⟨h,0,none⟩) (b+1) (b+1)]
 less:Lies W e 4 (blcells F n)
 heads:Lies W h 3 (icells H (b+1))
 var:Lies W v 120 [.pointer (some ⟨g,0,none⟩)]
 its:Its W lo A n (xi X)
 below:Below lo w W
 size:lo+5≤W.heap.size
 marks:∀d∈ms,W.heap[d]?=some (.deferred (some []))
section
variable {w W W':World} {lo n c b g e h v:Nat} {A:Option Addr} {X:Nat→Nat} {ms:List Nat} {F:Nat→Bool} {H:Nat→Int}
theorem RIn.off {p:Nat→Prop} (r:RIn w lo A n c b X g e h v ms F H W) (hO:Off p W W') (hp:∀k,k < lo+5→p k) (hm:∀d∈ms,p d) (hlt:e < lo+5∧h < lo+5∧g < lo+5∧v < lo+5):RIn w lo A n c b X g e h v ms F H W':=by
 have hb:Below lo W W':=hO.below (by have:=r.size;omega) (fun k hk=>hp k (by omega))
 exact ⟨hO.cell r.t0 (hp _ (by show lo < lo+5;omega)),r.head.same (hO.block _ r.head.lt (hp _ hlt.2.2.1)),r.less.same (hO.block _ r.less.lt (hp _ hlt.1)),r.heads.same (hO.block _ r.heads.lt (hp _ hlt.2.1)),r.var.same (hO.block _ r.var.lt (hp _ hlt.2.2.2)),
  r.its.below hb,r.below.trans hb,Nat.le_trans r.size hO.size,fun d hd=>(hO.block d (Array.getElem?_eq_some_iff.1 (r.marks d hd)).1 (hm d hd)).trans (r.marks d hd)⟩
theorem RIn.grown {r0:Nat} (r:RIn w lo A n c b X g e h v ms F H W) (hg:W.grownBy W' (some r0)) (hr:lo+5≤r0) (hm:∀d∈ms,d≠r0) (hlt:e < lo+5∧h < lo+5∧g < lo+5∧v < lo+5):RIn w lo A n c b X g e h v ms F H W':=
 r.off (p:=fun k=>k≠r0) (Off.grown hg (fun k e'=>by cases e';exact fun hh=>hh rfl)) (fun k hk=>by omega) hm hlt
theorem RIn.drew (r:RIn w lo A n c b X g e h v ms F H W):RIn w lo A n c b X g e h v ms F H W.drew:=
 ⟨r.t0,r.head.drew,r.less.drew,r.heads.drew,r.var.drew,fun k hk=>r.its k hk,r.below.drew,r.size,r.marks⟩
theorem RIn.put_h (r:RIn w lo A n c b X g e h v ms F H W) (hm:∀d∈ms,d≠h) (hlo:lo+1≤h) (j:Nat) (x:Int):RIn w lo A n c b X g e h v ms F (putI H j x) (W.setCell ⟨h,j,none⟩ (.int .i64 x)):=by
 have n1:g≠h:=r.head.unlike r.heads (by decide)
 have n2:e≠h:=r.less.unlike r.heads (by decide)
 have n3:v≠h:=r.var.unlike r.heads (by decide)
 have hb:Below lo W (W.setCell ⟨h,j,none⟩ (.int .i64 x)):=(Below.refl lo W).setCell (p:=⟨h,j,none⟩) (by show lo≤h;omega) _
 refine ⟨(World.cell?_of_block (Below.heap_setCell W ⟨h,j,none⟩ _ lo (by show lo≠h;omega))).trans r.t0,r.head.far (p:=⟨h,j,none⟩) n1 _,r.less.far (p:=⟨h,j,none⟩) n2 _,?_,r.var.far (p:=⟨h,j,none⟩) n3 _,r.its.below hb,r.below.trans hb,Nat.le_trans r.size hb.size,fun d hd=>(Below.heap_setCell W ⟨h,j,none⟩ _ d (hm d hd)).trans (r.marks d hd)⟩
 have:=r.heads.put j (.int .i64 x)
 rw [icells_put] at this
 exact this
theorem RIn.put_e (r:RIn w lo A n c b X g e h v ms F H W) (hm:∀d∈ms,d≠e) (hlo:lo+1≤e) (j:Nat) (x:Bool):RIn w lo A n c b X g e h v ms (fun i=>if i=j then x else F i) H (W.setCell ⟨e,j,none⟩ (.bool x)):=by
 have n1:g≠e:=r.head.unlike r.less (by decide)
 have n2:h≠e:=r.heads.unlike r.less (by decide)
 have n3:v≠e:=r.var.unlike r.less (by decide)
 have hb:Below lo W (W.setCell ⟨e,j,none⟩ (.bool x)):=(Below.refl lo W).setCell (p:=⟨e,j,none⟩) (by show lo≤e;omega) _
 refine ⟨(World.cell?_of_block (Below.heap_setCell W ⟨e,j,none⟩ _ lo (by show lo≠e;omega))).trans r.t0,r.head.far (p:=⟨e,j,none⟩) n1 _,?_,r.heads.far (p:=⟨e,j,none⟩) n2 _,r.var.far (p:=⟨e,j,none⟩) n3 _,r.its.below hb,r.below.trans hb,Nat.le_trans r.size hb.size,fun d hd=>(Below.heap_setCell W ⟨e,j,none⟩ _ d (hm d hd)).trans (r.marks d hd)⟩
 have:=r.less.put j (.bool x)
 rw [blcells_set] at this
 exact this
theorem RIn.congr {F':Nat→Bool} {H':Nat→Int} (r:RIn w lo A n c b X g e h v ms F H W) (hF:∀q,q < n→F q=F' q) (hH:∀y,y < b+1→H y=H' y):RIn w lo A n c b X g e h v ms F' H' W:=
 ⟨r.t0,r.head,by rw [←blcells_congr hF];exact r.less,by rw [←icells_congr hH];exact r.heads,r.var,r.its,r.below,r.size,r.marks⟩
end
end Go.Proofs.YtcidobpbepeakaaGreat
namespace Go.Proofs.YtcidobpbepeakaaGreat
open Go.RowKit Go.Shelf
attribute [local go_sem] Oper.semAt_some
theorem rowOf_any (A:Option Addr) (n c b:Nat) (X:Nat→Nat) (w:World) (hn0:0 < n) (hn:n≤4194304) (hb:b≤4194304) (hnc:n≤c) (hc:c≤maxLen) (hX:∀p,p < n→X p < b) (ht:Its w w.heap.size A n (xi X)):
    Calls Tryz.prog 72 #[.slice A n c,.int .i64 (b:Int)] w fun e' w'=>∃g e h T,e'=.returned (.pointer (some ⟨g,0,none⟩))∧Rw w' T A n c X b g e h∧T≤w'.heap.size∧Below w.heap.size w w':=by
 obtain ⟨ad0,hA0,_⟩:=ht 0 hn0
 subst hA0
 have htA:=Lib.hid ht
 obtain ⟨lo,hlo⟩:∃lo,w.heap.size=lo:=⟨_,rfl⟩
 rw [hlo] at htA ⊢
 obtain ⟨w1,hw1⟩:∃w1,w.alloc (.cells #[.slice (some ad0) n c] 34)=w1:=⟨_,rfl⟩
 have z1:w1.heap.size=lo+1:=by rw [←hw1,size_alloc,hlo]
 have l1:Lies w1 lo 34 [.slice (some ad0) n c]:=by rw [←hw1,←hlo];exact lies_new w _ _
 have k1:Below lo w w1:=by rw [←hw1,←hlo];exact (Below.refl _ _).alloc (Nat.le_refl _) _
 have v1:=l1.cell 0
 have hmix:Tryz.prog.follows .mixedOrders=true:=by kernel_rfl
 have e1:IntKind.i64.wrap ((b:Int)+1)=(b:Int)+1:=IntWalk.i64_in _ (by omega)
 have hMi:∀W:World,(Instr.makeSlice 34 (.int .i64 ((b:Int)+1)) (.int .i64 ((b:Int)+1))).run Tryz.prog W=.ok (.slice (some ⟨W.heap.size,0,none⟩) (b+1) (b+1)) (W.alloc (.cells (icells (fun _=>0) (b+1)).toArray 3)):=fun W=>by
  have h:=make_ints1 W (b+1) (by omega)
  rw [show ((b+1:Nat):Int)=(b:Int)+1 by omega] at h
  exact h
 have hMb:=fun W=>make_bools0 W n (by omega)
 clear ht
 refine (callsIn_wide (n:=0)).1 ?_
 refine callsIn_of_wp_marks Tryz.func72 rfl trivial ?_ rfl
 simp only [Tryz.ntmps72,List.size_toArray,List.length_cons,List.length_nil,Nat.reduceAdd,Nat.reduceSub,Array.replicate_succ,Array.replicate_zero,List.push_toArray,List.append_toArray,List.nil_append,List.cons_append]
 gi_wp2
 rename_i Q' K hK
 have hrest:∀(e h g v:Nat) (W:World),Lies W g 176 [.slice (some ad0) n c,.slice (some ⟨e,0,none⟩) n n,.slice (some ⟨h,0,none⟩) (b+1) (b+1)]→Lies W e 4 (blcells (fun _=>false) n)→Lies W h 3 (icells (fun _=>0) (b+1))→
     Lies W v 120 [.pointer (some ⟨g,0,none⟩)]→Below (lo+1) w1 W→W.heap.size=lo+5→(lo+1≤e∧e < lo+5∧lo+1≤h∧h < lo+5∧lo+1≤g∧g < lo+5∧lo+1≤v∧v < lo+5)→
     K { tmps:=#[.slice (some ad0) n c,.int .i64 (b:Int),.pointer (some ⟨lo,0,none⟩),undef,.pointer none,.pointer (some ⟨v,0,none⟩),undef,undef,undef,.slice (some ad0) n c,.slice (some ad0) n c,.int .i64 (n:Int),.slice (some ⟨e,0,none⟩) n n,.int .i64 (b:Int),.int .i64 ((b:Int)+1),.slice (some ⟨h,0,none⟩) (b+1) (b+1),.agg #[.slice (some ad0) n c,.slice (some ⟨e,0,none⟩) n n,.slice (some ⟨h,0,none⟩) (b+1) (b+1)],.pointer (some ⟨g,0,none⟩),undef,undef,undef,undef,undef,undef,undef,undef,undef,undef,undef,undef,undef,undef,undef,undef,undef,undef,undef,undef,undef,undef,undef,undef,undef,undef,undef,undef,undef,undef,undef,undef,undef,undef,undef,undef,undef,undef,undef,undef,undef,undef,undef,undef,undef,undef,undef,undef,undef,undef,undef,undef,undef,undef,undef,undef,undef,undef,undef,undef,undef,undef,undef,undef,undef,undef,undef,undef,undef,undef,undef,undef,undef,undef],defers:=[] } W:=by
  intro e h g v W lg le lh lv kW zW hlt
  refine hK _ _ ?_
  have HB:Below lo w W:=k1.trans (kW.mono (by omega))
  have c0:=(l1.below kW (by omega)).cell 0
  have HBk:=Lib.hid (backward_any (some ad0) n c W)
  gi_wp2
  refine ⟨trivial,rfl,(callsIn_wide.2 HBk.out).mono ?_⟩
  rintro e' W1 ⟨rfl,hW1⟩
  rw [zW]
  have zW1:W1.heap.size=lo+6:=by rw [hW1,size_alloc,zW]
  have kW1:Below (lo+5) W W1:=by rw [hW1,←zW];exact (Below.refl _ _).alloc (Nat.le_refl _) _
  have lb:Lies W1 (lo+5) 34 [.slice (some ad0) n c]:=by rw [hW1,←zW];exact lies_new W _ _
  gi_wp2
  rw [←hW1]
  have hl2:e < lo+5∧h < lo+5∧g < lo+5∧v < lo+5:=by omega
  have R0:RIn w lo (some ad0) n c b X g e h v [] (upFrom X n n) (cI X n n) W1:=by
   have k2:Below (lo+5) W W1:=kW1
   refine ⟨((l1.below kW (by omega)).below k2 (by omega)).cell 0,lg.below k2 hl2.2.2.1,?_,?_,lv.below k2 hl2.2.2.2,(htA.out.below (HB.trans (k2.mono (by omega)))),HB.trans (k2.mono (by omega)),by omega,fun d hd=>by cases hd⟩
   · rw [blcells_congr (f:=upFrom X n n) (f':=fun _=>false) (fun j hj=>by unfold upFrom;rw [decide_eq_false (by omega)];rfl)]
     exact le.below k2 hl2.1
   · rw [icells_congr (U:=cI X n n) (U':=fun _=>0) (fun j _=>cI_none X n j)]
     exact lh.below k2 hl2.2.1
  clear HBk lg le lh lv kW c0
  refine back_law (some ad0) n c (lo+5) zW1 (by omega) (by omega) (lb.cell 0) (ints_of_its R0.its) rfl rfl
   (fun i W=>Hid (RIn w lo (some ad0) n c b X g e h v [] (upFrom X n (n - i)) (cI X n (n - i)) W)) ?inv (Lib.hid (by rw [Nat.sub_zero];exact R0)) (fun x=>{ tmps:=#[.slice (some ad0) n c,.int .i64 (b:Int),.pointer (some ⟨lo,0,none⟩),undef,.pointer none,.pointer (some ⟨v,0,none⟩),.int .i64 (x.1:Int),.int .i64 x.2,undef,.slice (some ad0) n c,.slice (some ad0) n c,.int .i64 (n:Int),.slice (some ⟨e,0,none⟩) n n,.int .i64 (b:Int),.int .i64 ((b:Int)+1),.slice (some ⟨h,0,none⟩) (b+1) (b+1),.agg #[.slice (some ad0) n c,.slice (some ⟨e,0,none⟩) n n,.slice (some ⟨h,0,none⟩) (b+1) (b+1)],.pointer (some ⟨g,0,none⟩),.slice (some ad0) n c,.func (.func 114) #[] #[.pointer (some ⟨lo+5,0,none⟩)],.int .i64 (x.1:Int),.int .i64 x.2,undef,undef,undef,undef,undef,undef,undef,undef,undef,undef,undef,undef,undef,undef,undef,undef,undef,undef,undef,undef,undef,undef,undef,undef,undef,undef,undef,undef,undef,undef,undef,undef,undef,undef,undef,undef,undef,undef,undef,undef,undef,undef,undef,undef,undef,undef,undef,undef,undef,undef,undef,undef,undef,undef,undef,undef,undef,undef,undef,undef,undef,undef,undef,undef,undef,undef,undef,undef,undef,undef],defers:=[] }) ?assign ?body ?done
  case inv=>
   intro i A1 A2 hi hg
   exact Lib.hid (hi.out.grown hg (by omega) (fun d hd=>by cases hd) hl2)
  case assign=>
   intro l x W K hK
   gi_wp2
   exact hK
  case body=>
   rintro l i ⟨k,vx⟩ W hs hi ⟨hx1,ad,hA,hc⟩ hR
   cases hA
   have hx1:k+i+1=n:=hx1
   have hkn:k < n:=by omega
   have hc:W.cell? (ad0.add k)=some (.int .i64 vx):=hc
   rw [show n - i=k+1 by omega] at hR
   rw [show n - (i+1)=k by omega]
   obtain ⟨ad',e',_,hc',_⟩:=hR.out.its k hkn
   have hvx:vx=((X k:Nat):Int):=by
    cases e'
    rw [hc'] at hc
    injection hc with hc
    injection hc with _ hc
    exact hc.symm
   subst hvx
   clear hc hc' e'
   have hxb:=hX k hkn
   obtain ⟨hc1,hc2,hc3⟩:=cI_at (X:=X) hkn
   obtain ⟨y,hy⟩:∃y,X k+1=y:=⟨_,rfl⟩
   rw [hy] at hc1 hc2 hc3
   obtain ⟨u,hu⟩:∃u,cI X n (k+1) y=u:=⟨_,rfl⟩
   rw [hu] at hc1 hc2 hc3
   have hyx:IntKind.i64.wrap (((X k:Nat):Int)+1)=(y:Int):=by rw [IntWalk.i64_in _ (by omega)];omega
   have hu1:IntKind.i64.wrap (u+1)=u+1:=IntWalk.i64_in _ (by omega)
   have hyb:(y:Int) < (b:Int)+1:=by omega
   have v1:=hR.out.var.cell 0
   have g2:=hR.out.head.cell 2
   have hy2:W.cell? ⟨h,y,none⟩=some (.int .i64 u):=by
    rw [hR.out.heads.cell,←hu]
    exact icells_at _ _ _ (by omega)
   have fy:=hR.out.heads.free y
   obtain ⟨W2,hW2⟩:∃W2,W.setCell ⟨h,y,none⟩ (.int .i64 (u+1))=W2:=⟨_,rfl⟩
   have R2:RIn w lo (some ad0) n c b X g e h v [] (upFrom X n (k+1)) (cI X n k) W2:=by
    rw [←hW2]
    refine (hR.out.put_h (fun d hd=>by cases hd) (by omega) y (u+1)).congr (fun _ _=>rfl) (fun z _=>?_)
    by_cases hz:z=y
    · rw [hz,putI_at,hc1]
    · rw [putI_off _ hz]
      exact (cI_off (by omega)).symm
   have hO2:Off (fun q=>q≠h) W W2:=by rw [←hW2];exact Off.setCell (fun hh=>hh rfl) _
   obtain ⟨k1,hk1e⟩:∃k1,k+1=k1:=⟨_,rfl⟩
   have hkw:IntKind.i64.wrap ((k:Int)+1)=(k1:Int):=by rw [IntWalk.i64_in _ (by omega)];omega
   have t2:=R2.t0
   clear hR hu hc1 hc2 hc3 hs hi hx1
   by_cases hlast:k+1=n
   · have hcond:¬((k1:Int) < (n:Int)):=by omega
     have HR3:Hid (RIn w lo (some ad0) n c b X g e h v [] (upFrom X n k) (cI X n k) W2):=Lib.hid (R2.congr (fun q hq=>by
      unfold upFrom
      by_cases hqk:q=k
      · subst hqk
        rw [show q=n - 1 by omega,up_last,Bool.and_false,Bool.and_false]
      · by_cases hq2:k≤q
        · omega
        · rw [decide_eq_false hq2,decide_eq_false (by omega)]) (fun _ _=>rfl))
     have HI3:=Lib.hid (ints_of_its R2.its)
     clear R2
     gi_wp2
     exact ⟨⟨hO2.less (fun q hq=>by rcases hq with rfl | rfl | rfl <;> omega),HI3.out⟩,HR3⟩
   · have hcond:(k1:Int) < (n:Int):=by omega
     have hk1:k+1 < n:=by omega
     have v2:=R2.drew.var.cell 0
     have g1:=R2.drew.head.cell 1
     have t3:=R2.drew.t0
     obtain ⟨ad2,hA2,_,hcx,_⟩:=R2.its (k+1) hk1
     cases hA2
     have hcx:W2.drew.cell? (ad0.add k1)=some (.int .i64 ((X (k+1):Nat):Int)):=by rw [←hk1e];exact hcx
     have hce:W2.drew.cell? ⟨e,k,none⟩=some (.bool (upFrom X n (k+1) k)):=by
      rw [R2.drew.less.cell]
      exact blcells_at _ _ _ hkn
     have hce1:W2.drew.cell? ⟨e,k1,none⟩=some (.bool (up X n (k+1))):=by
      rw [←hk1e,R2.drew.less.cell,blcells_at _ _ _ hk1]
      unfold upFrom
      rw [decide_eq_true (Nat.le_refl _)]
      rfl
     have fe:=R2.drew.less.free k
     have hks:(k:Int) < (n:Int):=by omega
     have hup:=up_at (X:=X) hk1
     obtain ⟨W3,hW3⟩:∃W3,W2.drew.setCell ⟨e,k,none⟩ (.bool (up X n k))=W3:=⟨_,rfl⟩
     have R3:RIn w lo (some ad0) n c b X g e h v [] (upFrom X n k) (cI X n k) W3:=by
      rw [←hW3]
      refine (R2.drew.put_e (fun d hd=>by cases hd) (by omega) k (up X n k)).congr (fun q _=>?_) (fun _ _=>rfl)
      show (if q=k then up X n k else upFrom X n (k+1) q)=upFrom X n k q
      unfold upFrom
      by_cases hqk:q=k
      · rw [if_pos hqk,hqk,decide_eq_true (Nat.le_refl _)]
        rfl
      · rw [if_neg hqk]
        by_cases hq2:k≤q
        · rw [decide_eq_true hq2,decide_eq_true (show k+1≤q by omega)]
        · rw [decide_eq_false hq2,decide_eq_false (by omega)]
     have hO3:Off (fun q=>q≠h∧q≠e) W W3:=by
      rw [←hW3]
      exact (hO2.less (fun q hq=>hq.1)).trans ((off_drew _ _).trans (Off.setCell (fun hh=>hh.2 rfl) _))
     have HR3:=Lib.hid R3
     have HI3:=Lib.hid (ints_of_its R3.its)
     have HO3:=Lib.hid hO3
     clear R2 R3 hO3 hO2
     by_cases hlt:X k < X (k+1)
     · have hu3:up X n k=true:=by rw [hup,decide_eq_true hlt];rfl
       rw [hu3] at hW3
       have d1:decide (((X k:Nat):Int) < ((X (k+1):Nat):Int))=true:=decide_eq_true (by omega)
       have d2:decide (X k < X (k+1))=true:=decide_eq_true hlt
       generalize X (k+1)=x1 at*
       generalize X k=x0 at*
       clear hup hu3 hk1 hlast hk1e
       gi_wp2
       refine still_in_round 32 hmix (by kernel_rfl) (by kernel_rfl) (fun ⟨_,_,hh⟩=>hh) fun ops hops=>?_
       have hd12:dstOf ops 12=some 49:=by rw [←hops];kernel_rfl
       have hd20:dstOf ops 20=some 57:=by rw [←hops];kernel_rfl
       clear hops
       simp only [List.take_succ_cons,List.take_zero,List.drop_succ_cons,List.drop_zero]
       iterate 13
        refine wpStill_step (fun K hK=>?_)
        have HK:=Lib.hid hK
        clear hK
        go_simp
        refine HK.out _ ?_
        clear HK K
       iterate 8
        refine still_passed (g:=12) (d:=49) (b:=false) (u:=.bool true) rfl hd12 rfl (by simp) fun K hK=>?_
        have HK:=Lib.hid hK
        clear hK
        go_simp
        refine HK.out _ ?_
        clear HK K
       iterate 8
        refine still_passed (g:=20) (d:=57) (b:=true) (u:=undef) rfl hd20 rfl (by simp [undef]) fun K hK=>?_
        have HK:=Lib.hid hK
        clear hK
        go_simp
        refine HK.out _ ?_
        clear HK K
       iterate 1
        refine still_passed (g:=12) (d:=49) (b:=false) (u:=.bool true) rfl hd12 rfl (by simp) fun K hK=>?_
        have HK:=Lib.hid hK
        clear hK
        go_simp
        refine HK.out _ ?_
        clear HK K
       iterate 2
        refine wpStill_step (fun K hK=>?_)
        have HK:=Lib.hid hK
        clear hK
        go_simp
        refine HK.out _ ?_
        clear HK K
       refine wpStill_nil ?_
       go_wp2
       exact ⟨⟨HO3.out.less (fun q hq=>by rcases hq with rfl | rfl | rfl <;> exact ⟨by omega,by omega⟩),HI3.out⟩,HR3⟩
     · by_cases heq:X k=X (k+1)
       · have hu3:up X n k=up X n (k+1):=by rw [hup,decide_eq_false hlt,decide_eq_true heq];rfl
         rw [hu3] at hW3
         rw [←heq] at hcx
         clear hup hu3 hk1 hlast hk1e hlt heq
         generalize up X n (k+1)=ub at*
         generalize X k=x0 at*
         gi_wp2
         refine still_in_round 32 hmix (by kernel_rfl) (by kernel_rfl) (fun ⟨_,_,hh⟩=>hh) fun ops hops=>?_
         have hd12:dstOf ops 12=some 49:=by rw [←hops];kernel_rfl
         have hd20:dstOf ops 20=some 57:=by rw [←hops];kernel_rfl
         clear hops
         simp only [List.take_succ_cons,List.take_zero,List.drop_succ_cons,List.drop_zero]
         iterate 13
          refine wpStill_step (fun K hK=>?_)
          have HK:=Lib.hid hK
          clear hK
          go_simp
          refine HK.out _ ?_
          clear HK K
         iterate 8
          refine still_wanted (g:=12) (d:=49) (b:=false) rfl hd12 rfl fun K hK=>?_
          have HK:=Lib.hid hK
          clear hK
          go_simp
          refine HK.out _ ?_
          clear HK K
         iterate 8
          refine still_wanted (g:=20) (d:=57) (b:=true) rfl hd20 rfl fun K hK=>?_
          have HK:=Lib.hid hK
          clear hK
          go_simp
          refine HK.out _ ?_
          clear HK K
         iterate 1
          refine still_wanted (g:=12) (d:=49) (b:=false) rfl hd12 rfl fun K hK=>?_
          have HK:=Lib.hid hK
          clear hK
          go_simp
          refine HK.out _ ?_
          clear HK K
         iterate 2
          refine wpStill_step (fun K hK=>?_)
          have HK:=Lib.hid hK
          clear hK
          go_simp
          refine HK.out _ ?_
          clear HK K
         refine wpStill_nil ?_
         go_wp2
         exact ⟨⟨HO3.out.less (fun q hq=>by rcases hq with rfl | rfl | rfl <;> exact ⟨by omega,by omega⟩),HI3.out⟩,HR3⟩
       · have hu3:up X n k=false:=by rw [hup,decide_eq_false hlt,decide_eq_false heq];rfl
         rw [hu3] at hW3
         have d1:decide (((X k:Nat):Int) < ((X (k+1):Nat):Int))=false:=decide_eq_false (by omega)
         have d2:decide (X k < X (k+1))=false:=decide_eq_false hlt
         have d4:(((X k:Nat):Int)==((X (k+1):Nat):Int))=false:=by rw [beq_eq_false_iff_ne];omega
         generalize X (k+1)=x1 at*
         generalize X k=x0 at*
         clear hup hu3 hk1 hlast hk1e
         gi_wp2
         refine still_in_round 32 hmix (by kernel_rfl) (by kernel_rfl) (fun ⟨_,_,hh⟩=>hh) fun ops hops=>?_
         have hd12:dstOf ops 12=some 49:=by rw [←hops];kernel_rfl
         have hd20:dstOf ops 20=some 57:=by rw [←hops];kernel_rfl
         clear hops
         simp only [List.take_succ_cons,List.take_zero,List.drop_succ_cons,List.drop_zero]
         iterate 13
          refine wpStill_step (fun K hK=>?_)
          have HK:=Lib.hid hK
          clear hK
          go_simp
          refine HK.out _ ?_
          clear HK K
         iterate 8
          refine still_wanted (g:=12) (d:=49) (b:=false) rfl hd12 rfl fun K hK=>?_
          have HK:=Lib.hid hK
          clear hK
          go_simp
          refine HK.out _ ?_
          clear HK K
         iterate 8
          refine still_passed (g:=20) (d:=57) (b:=true) (u:=.bool false) rfl hd20 rfl (by simp) fun K hK=>?_
          have HK:=Lib.hid hK
          clear hK
          go_simp
          refine HK.out _ ?_
          clear HK K
         iterate 1
          refine still_wanted (g:=12) (d:=49) (b:=false) rfl hd12 rfl fun K hK=>?_
          have HK:=Lib.hid hK
          clear hK
          go_simp
          refine HK.out _ ?_
          clear HK K
         iterate 2
          refine wpStill_step (fun K hK=>?_)
          have HK:=Lib.hid hK
          clear hK
          go_simp
          refine HK.out _ ?_
          clear HK K
         refine wpStill_nil ?_
         go_wp2
         exact ⟨⟨HO3.out.less (fun q hq=>by rcases hq with rfl | rfl | rfl <;> exact ⟨by omega,by omega⟩),HI3.out⟩,HR3⟩
  case done=>
   rintro D1 W hD1 hR hk1
   rw [Nat.sub_self] at hR
   have hD1l:=(Array.getElem?_eq_some_iff.1 hk1).1
   have R1:RIn w lo (some ad0) n c b X g e h v [D1] (upFrom X n 0) (hI2 X n 0) W:=
    ⟨hR.out.t0,hR.out.head,hR.out.less,by rw [icells_congr (U:=hI2 X n 0) (U':=cI X n 0) (fun j _=>(hI2_zero j).symm)];exact hR.out.heads,hR.out.var,hR.out.its,hR.out.below,hR.out.size,fun d hd=>by
      obtain rfl:d=D1:=by simpa using hd
      exact hk1⟩
   have HR1:=Lib.hid R1
   clear hR R1 hk1
   gi_wp2
   gi_loopw [70] (fun s wr=>∃x:Nat,x≤b∧s=.int .i64 (x:Int)∧Hid (RIn w lo (some ad0) n c b X g e h v [D1] (upFrom X n 0) (hI2 X n x) wr)) (fun s _=>b - (intOf s).toNat)
   case atStart=>exact ⟨0,Nat.zero_le _,rfl,HR1⟩
   case round=>
    clear HR1
    obtain ⟨x,hx,rfl,hR⟩:=hrel
    by_cases hlt:x < b
    · have hltx:(x:Int) < (b:Int):=by omega
      have hltb:(x:Int) < (b:Int)+1:=by omega
      obtain ⟨s1,s2,s3,s4,s5⟩:=hI2_step (X:=X) (n:=n) (x:=x)
      have hRd:=hR.out.drew
      have v1:=hRd.var.cell 0
      have g2:=hRd.head.cell 2
      have cx:wr.drew.cell? ⟨h,x,none⟩=some (.int .i64 (hI2 X n x x)):=by
       rw [hRd.heads.cell]
       exact icells_at _ _ _ (by omega)
      have cy:wr.drew.cell? ⟨h,x+1,none⟩=some (.int .i64 (hI2 X n x (x+1))):=by
       rw [hRd.heads.cell]
       exact icells_at _ _ _ (by omega)
      have fy:=hRd.heads.free (x+1)
      have hne:D1≠h:=by omega
      have HR2:Hid (RIn w lo (some ad0) n c b X g e h v [D1] (upFrom X n 0) (hI2 X n (x+1)) (wr.drew.setCell ⟨h,x+1,none⟩ (.int .i64 (hI2 X n x (x+1)+hI2 X n x x)))):=
       Lib.hid ((hRd.put_h (fun d hd=>by
        obtain rfl:d=D1:=by simpa using hd
        exact hne) (by omega) (x+1) (hI2 X n x (x+1)+hI2 X n x x)).congr (fun _ _=>rfl) (fun z _=>by
         by_cases hz:z=x+1
         · rw [hz,putI_at,s1]
         · rw [putI_off _ hz]
           exact hI2_off hz))
      have hsum:IntKind.i64.wrap (hI2 X n x (x+1)+hI2 X n x x)=hI2 X n x (x+1)+hI2 X n x x:=IntWalk.i64_in _ (by omega)
      obtain ⟨y,hy⟩:∃y,x+1=y:=⟨_,rfl⟩
      have hxy:IntKind.i64.wrap ((x:Int)+1)=(y:Int):=by rw [IntWalk.i64_in _ (by omega)];omega
      have hyb:(y:Int) < (b:Int)+1:=by omega
      rw [hy] at cy fy HR2 hsum
      generalize hI2 X n x y=a1 at*
      generalize hI2 X n x x=a2 at*
      clear s1 s2 s3 s4 s5 hRd hR
      gi_wp2
      refine wpIn_wide.2 ?_
      go_still_tail 17,(by kernel_rfl)
      change wpList _ _ _ _ _ wr.drew
      go_wp2
      gi_wp2
      go_roundw
      case rel=>exact ⟨x+1,by omega,by go_num,by rw [hy];exact HR2⟩
      case measure=>simp [intOf];omega
    · have hxb:x=b:=by omega
      have hge:¬((x:Int) < (b:Int)):=by omega
      rw [hxb] at hR
      have hk1:=hR.out.marks D1 (List.mem_singleton.2 rfl)
      have hDl:=(Array.getElem?_eq_some_iff.1 hk1).1
      have v1:=hR.out.var.cell 0
      have hMM:Marks (lo+5) wr.heap.size ({ target:=.collected D1,args:=#[] }::[]) wr:=⟨D1,rfl,by omega,hDl,hk1,trivial⟩
      have HRw:Hid (Rw wr (lo+5) (some ad0) n c X b g e h):=Lib.hid ⟨hR.out.head,hR.out.its.mono_ (by omega),by
       rw [←blcells_congr (f:=upFrom X n 0) (f':=up X n) (fun j _=>by unfold upFrom;rw [decide_eq_true (Nat.zero_le _)];rfl)]
       exact hR.out.less,by
       rw [←icells_congr (U:=hI2 X n b) (U':=hdI X n) (fun j hj=>by unfold hI2;rw [if_pos (by omega)];rfl)]
       exact hR.out.heads,by omega,⟨hn0,hn,hb,hnc,hc⟩,hX⟩
      have HB4:=Lib.hid hR.out.below
      have hsz:=hR.out.size
      clear hR
      gi_wp2
      exact hMM.out (by omega) fun w' hw'=>⟨.pointer (some ⟨g,0,none⟩),by simp [results,Tryz.results72,go_sem],g,rfl,e,h,lo+5,HRw.out.below hw' (Nat.le_refl _),Nat.le_trans hsz hw'.size,HB4.out.trans (hw'.mono (by omega))⟩
 gi_region
 all_goals
  refine hrest _ _ _ _ _ ?_ ?_ ?_ ?_ ?_ ?_ ?_
 all_goals first
  | exact (four_allocs z1 _ _ _ _).1
  | exact (four_allocs z1 _ _ _ _).2.1
  | exact (four_allocs z1 _ _ _ _).2.2.1
  | exact (four_allocs z1 _ _ _ _).2.2.2.1
  | exact (four_allocs z1 _ _ _ _).2.2.2.2.1
  | exact (four_allocs z1 _ _ _ _).2.2.2.2.2
  | omega
end Go.Proofs.YtcidobpbepeakaaGreat

namespace Go.Proofs.YtcidobpbepeakaaGreat
open Go.RowKit
theorem onlyDips_any {w:World} {T n c b g e h:Nat} {A:Option Addr} {X:Nat→Nat} (r:Rw w T A n c X b g e h) (hT:T≤w.heap.size) (Bp:Nat) (P:Option Addr) (k cp:Nat) (s:Nat→Nat) (hBp:Bp≤w.heap.size) (hk:k≤4194304) (hs:∀j,j < k→s j < n) (hP:Its w Bp P k (fun j=>((s j:Nat):Int))):
    Calls Tryz.prog 74 #[.pointer (some ⟨g,0,none⟩),.slice P k cp] w fun e' w'=>∃(v:Value) (U:Nat→Int),e'=.returned v∧Picks (fun j=>dip X n (s j)) s k U∧
     w'.ownsRow w.heap.size 3 1 v (Pl.cnt (fun j=>dip X n (s j)) k) (icells U (Pl.cnt (fun j=>dip X n (s j)) k))∧Below w.heap.size w w':=by
 obtain ⟨f,hf⟩:∃f:Nat→Bool,(fun j=>dip X n (s j))=f:=⟨_,rfl⟩
 rw [hf]
 have HF:=Lib.hid hf
 clear hf
 have HR:=Lib.hid r
 have HP:=Lib.hid hP
 have HS:=Lib.hid hs
 obtain ⟨B,hB⟩:∃B,w.heap.size=B:=⟨_,rfl⟩
 rw [hB] at hT hBp ⊢
 clear r hP hs
 go_enter Tryz.func74,Tryz.ntmps74
 go_wp2_with fail
 go_loopw [5,10] (fun sl v wr=>∃i:Nat,i≤k∧v=.int .i64 (i:Int)∧Hid (∃U,Picks f s i U∧wr.ownsRow B 3 1 sl (Pl.cnt f i) (icells U (Pl.cnt f i)))∧Below B w wr) (fun _ v _=>k - (intOf v).toNat)
 case atStart=>exact ⟨0,Nat.zero_le _,rfl,Lib.hid ⟨fun _=>0,fun j hj=>absurd hj (Nat.not_lt_zero j),World.ownsRow_nil _ _ _ _⟩,Below.refl _ _⟩
 case round=>
  obtain ⟨i,hi,rfl,hrow,hb⟩:=hrel
  have hbs:=hb.size
  by_cases hlt:i < k
  · have hlti:(i:Int) < (k:Int):=by omega
    have hsn:=HS.out i hlt
    obtain ⟨ad,rfl,_,hc0,_⟩:=HP.out.below (hb.mono hBp) i hlt
    have hc:wr.cell? (ad.add i)=some (.int .i64 ((s i:Nat):Int)):=hc0
    clear hc0
    have hD:=isDip_any (HR.out.below hb hT) hsn
    have hm:=cnt_to f i
    obtain ⟨U,hU,hown⟩:=hrow.out
    have HU:=Lib.hid hU
    have HO:=Lib.hid hown
    obtain ⟨m,hmm⟩:∃m,Pl.cnt f i=m:=⟨_,rfl⟩
    rw [hmm] at HO hm
    have HM:=Lib.hid hmm
    have hBs:B≤wr.heap.size:=by omega
    have hm4:m≤4194304:=by omega
    have hd0:∀x:Bool,dip X n (s i)=x→f i=x:=fun x e=>by rw [←HF.out];exact e
    cases hdp:dip X n (s i)
    · rw [hdp] at hD
      have HDp:=Lib.hid (hd0 _ hdp)
      clear hU hown hmm hrow hdp hd0 hsn
      generalize s i=si at hc hD
      go_wp2_with (go_at_call 116;(with_reducible refine hD.mono ?_);rintro e w' ⟨rfl,rfl⟩)
      go_roundw
      case rel=>exact ⟨i+1,by omega,by go_num,Lib.hid ⟨U,HU.out.skip HDp.out,by rw [cnt_false HDp.out,HM.out];exact HO.out⟩,hb⟩
      case measure=>simp [intOf];omega
    · rw [hdp] at hD
      have HDp:=Lib.hid (hd0 _ hdp)
      obtain ⟨si,hsi⟩:∃si,s i=si:=⟨_,rfl⟩
      rw [hsi] at hc hD
      have HSi:=Lib.hid hsi
      clear hU hown hmm hrow hdp hd0 hsn hsi
      go_wp2_with (first
       | (go_at_call 116;(with_reducible refine hD.mono ?_);rintro e w' ⟨rfl,rfl⟩)
       | (at_builtin;refine step_append_int rfl (.tmp 17) (.tmp 19) rfl rfl HO.out (si:Int) rfl hBs hm4 ?_;intro v3 w3 hown3 hb3))
      go_roundw
      case rel=>exact ⟨i+1,by omega,by go_num,Lib.hid ⟨_,HU.out.take,by
       rw [cnt_true HDp.out,HM.out,←icells_putI,HSi.out]
       exact hown3.out⟩,hb.trans hb3⟩
      case measure=>simp [intOf];omega
  · have hik:i=k:=by omega
    have hge:¬(i:Int) < (k:Int):=by omega
    obtain ⟨U,hU,hown⟩:=hrow.out
    rw [hik] at hU hown
    have HU:=Lib.hid hU
    have HO:=Lib.hid hown
    clear hik hU hown hrow
    go_wp2_with fail
    go_ret
    exact ⟨_,rfl,U,HU.out,HO.out,hb⟩
theorem Its.congr_ {w:World} {B n:Nat} {A:Option Addr} {V V':Nat→Int} (h:Its w B A n V) (e:∀k,k < n→V k=V' k):Its w B A n V':=fun k hk=>by
 have:=h k hk
 rw [e k hk] at this
 exact this
def OrdPost (w:World) (X:Nat→Nat) (n:Nat) (e':Ending) (w':World):Prop:=
 ∃v s,e'=.returned v∧IsSA (xi X) n s∧w'.ownsRow w.heap.size 3 1 v n (icells (fun i=>((s i:Nat):Int)) n)∧Below w.heap.size w w'
theorem laid_ord {X:Nat→Nat} {n m:Nat} {D:Nat→Nat} {S:Nat→Int} (h:LaidPost X n m D S) (ho:∀k l,k < l→l < m→SLess (xi X) n (D k) (D l)):∃s,IsSA (xi X) n s∧∀i,i < n→S i=((s i:Nat):Int):=by
 obtain ⟨s,hs⟩:=h _ _ sless_ord2 sless_ord3 (fun k l hkl hl _=>sless_asymm (ho k l hkl hl))
 exact ⟨s,hs.isSA,hs.1⟩
theorem ordered_any:∀(n:Nat) (A:Option Addr) (c b:Nat) (X:Nat→Nat) (w:World),n≤4194304→b≤4194304→(A=none→n=0∧c=0)→n≤c→c≤maxLen→(∀p,p < n→X p < b)→Its w w.heap.size A n (xi X)→
    Calls Tryz.prog 49 #[.slice A n c,.int .i64 (b:Int)] w (OrdPost w X n):=by
 intro n
 induction n using Nat.strongRecOn with
 | ind n ih=>
 intro A c b X w hn hb hA hnc hcm hX ht
 unfold OrdPost
 rcases Nat.eq_zero_or_pos n with rfl | hn0
 · go_enter Tryz.func49,Tryz.ntmps49
   go_wp2_with fail
   go_ret
   exact ⟨_,rfl,fun i=>i,⟨fun i hi=>absurd hi (Nat.not_lt_zero i),fun i j _ hj=>absurd hj (Nat.not_lt_zero j)⟩,World.ownsRow_nil _ _ _ _,Below.refl _ _⟩
 · have HRo:=Lib.hid (rowOf_any A n c b X w hn0 hn hb hnc hcm hX ht)
   have HIH:=Lib.hid ih
   have hne0:¬(n:Int)=0:=by omega
   have hne1:((n:Int)==0)=false:=by rw [beq_eq_false_iff_ne];omega
   clear ih ht
   go_enter Tryz.func49,Tryz.ntmps49
   go_wp2_with fail
   refine HRo.out.mono ?_
   rintro e1 w1 ⟨g,e,h,T,rfl,r1,hT1,k1⟩
   have HD1:=Lib.hid (dips_any r1 hT1)
   have HR1:=Lib.hid r1
   clear HRo r1
   go_wp2_with fail
   refine HD1.out.mono ?_
   rintro e1 w2 ⟨v2,U2,rfl,hU2,ho2,k2⟩
   obtain ⟨hdu,hdv⟩:=picks_up hU2
   obtain ⟨m,hm⟩:∃m,Pl.cnt (dip X n) n=m:=⟨_,rfl⟩
   obtain ⟨d,hd⟩:∃d:Nat→Nat,(fun c=>(U2 c).toNat)=d:=⟨_,rfl⟩
   rw [hm] at hdu hdv ho2
   rw [hd] at hdu
   have hmn:m < n:=by
    have h1:=pigeon n m (fun p=>decide (p≠0)) d (fun i hi=>⟨(hdu.is i hi).1,by
     have:=(dip_is (hdu.is i hi).2).1
     simp;omega⟩) hdu.inj
    have h2:Pl.cnt (fun p=>decide (p≠0)) n+1≤n:=by
     have h3:=cnt_split (fun _=>true) (fun p=>decide (p≠0)) n
     have h4:=cnt_all (fun _=>true) n (fun _ _=>rfl)
     have h5:=pigeon n 1 (fun j=>true&&!decide (j≠0)) (fun _=>0) (fun i hi=>⟨hn0,by simp⟩) (fun i j hi hj _=>by omega)
     have h6:Pl.cnt (fun j=>true&&decide (j≠0)) n=Pl.cnt (fun p=>decide (p≠0)) n:=by congr 1
     omega
    omega
   have hU2d:∀k,k < m→U2 k=((d k:Nat):Int):=fun k hk=>by rw [←hd];exact hdv k hk
   have hsmall:∀k,k < m→d k < n:=fun k hk=>(hdu.is k hk).1
   obtain ⟨P,cp,rfl,hP⟩:=ItsR.of_own ho2 (fun i hi=>by
    rw [hU2d i hi]
    have:=hsmall i hi
    omega)
   have hPd:=hP.2.2.2.congr_ hU2d
   have hT2:T≤w2.heap.size:=Nat.le_trans hT1 k2.size
   have r2:=HR1.out.below k2 hT1
   have HL2:=Lib.hid (sLaid_any r2 hT2 P m cp d hdu.toDips hPd)
   have HDu:=Lib.hid hdu
   have HP:=Lib.hid hPd
   have hc0P:=hP.1
   clear HD1 hU2 ho2 hdv hd hU2d hP hPd r2
   go_wp2_with fail
   refine HL2.out.mono ?_
   rintro e1 w3 ⟨g3,c3,S3,rfl,ho3,k3,hS3⟩
   obtain ⟨s,hs⟩:=hS3 _ _ ahead_ord2 ahead_ord3 (ahead_dips HDu.out.toDips)
   have hPs:Its w3 w3.heap.size (some ⟨g3,0,none⟩) n (fun j=>((s j:Nat):Int)):=by
    obtain ⟨A',c',e',hI⟩:=ItsR.of_own ho3 (fun i hi=>by
     rw [hs.1 i hi]
     have:=hs.2.1 i hi
     omega)
    cases e'
    exact hI.2.2.2.congr_ hs.1
   have r3:=(HR1.out.below k2 hT1).below k3 hT2
   have hT3:T≤w3.heap.size:=Nat.le_trans hT2 k3.size
   have HO3:=Lib.hid (onlyDips_any r3 hT3 w3.heap.size (some ⟨g3,0,none⟩) n c3 s (Nat.le_refl _) hn hs.2.1 hPs)
   have HSs:=Lib.hid hs
   clear HL2 hS3 ho3 hPs r3 hs
   go_wp2_with fail
   refine HO3.out.mono ?_
   rintro e1 w4 ⟨v4,U4,rfl,hU4,ho4,k4⟩
   obtain ⟨hD4,hv4,hor⟩:=picks_dips HSs.out hU4
   have hmm:=hD4.many.trans HDu.out.toDips.many.symm
   rw [hmm] at hD4 hv4 hor ho4
   obtain ⟨σ,hσ,hO⟩:=dipOrd_of HDu.out hD4 hor
   have hσ:∀j,j < m→(U4 j).toNat=d (σ j):=hσ
   have hUσ:∀j,j < m→U4 j=((d (σ j):Nat):Int):=fun j hj=>by rw [hv4 j hj,hσ j hj]
   obtain ⟨Qs,cq,rfl,hQ⟩:=ItsR.of_own ho4 (fun i hi=>by
    rw [hUσ i hi]
    have:=hsmall (σ i) (hO.lt i hi)
    omega)
   have hQd:=hQ.2.2.2.congr_ hUσ
   have hT4:T≤w4.heap.size:=Nat.le_trans hT3 k4.size
   have r4:=((HR1.out.below k2 hT1).below k3 hT2).below k4 hT3
   have s3:=k3.size
   have s4:=k4.size
   have hP4:Its w4 w2.heap.size P m (fun k=>((d k:Nat):Int)):=(HP.out.below k3).below (k4.mono s3)
   have HN:=Lib.hid (named_any r4 hT4 hO P Qs cp cq (hP4.mono_ (by omega)) hQd)
   have HOr:=Lib.hid hO
   have HO4:=Lib.hid ho4
   have HUσ:=Lib.hid hUσ
   have HQd:=Lib.hid hQd
   clear HO3 hU4 hD4 hv4 hor hσ hO hQ hQd r4 hP4 ho4 hUσ HSs
   go_wp2_with fail
   refine HN.out.mono ?_
   rintro e1 w5 ⟨g5,Y,rfl,hN,ho5,k5⟩
   have s5:=k5.size
   have hlo:=unl_to (X:=X) (m:=m) (d:=d) (σ:=σ) m
   obtain ⟨u,hu⟩:∃u,unl X m d σ m=u:=⟨_,rfl⟩
   have HYb:=Lib.hid (HOr.out.below hN)
   have HYo:=Lib.hid (HOr.out.order hN)
   have HUn:=Lib.hid (fun hle=>HOr.out.unlike hle)
   rw [hu] at hlo HYb HUn ⊢
   have hT5:T≤w5.heap.size:=Nat.le_trans hT4 k5.size
   have r5:=(((HR1.out.below k2 hT1).below k3 hT2).below k4 hT3).below k5 hT4
   clear HN hN hu
   by_cases hlt:u < m
   · have hltu:(u:Int) < (m:Int):=by omega
     have h5:Its w5 w5.heap.size (some ⟨g5,0,none⟩) m (xi Y):=by
      obtain ⟨A',c',e',hI⟩:=ItsR.of_own ho5 (fun i hi=>by
       have:=HYb.out i hi
       show -9223372036854775808≤((Y i:Nat):Int)∧((Y i:Nat):Int)≤9223372036854775807
       omega)
      cases e'
      exact hI.2.2.2
     have HI5:=Lib.hid (HIH.out m hmn (some ⟨g5,0,none⟩) m u Y w5 (by omega) (by omega) (fun e'=>by cases e') (Nat.le_refl _) (by unfold maxLen;omega) HYb.out h5)
     have HR5:=Lib.hid r5
     clear h5 ho5 r5
     go_wp2_with fail
     refine HI5.out.mono ?_
     rintro e1 w6 ⟨v6,y,rfl,hy,ho6,k6⟩
     have s6:=k6.size
     obtain ⟨q,cq',e',hq1,hq2,hq3,hq4⟩:=owns_some HO4.out (show 0 < m by omega)
     cases e'
     obtain ⟨y6,c6,rfl,hy1,hy2,_,_⟩:=owns_some ho6 (show 0 < m by omega)
     have ho46:w6.ownsRow w3.heap.size 3 1 (.slice (some ⟨q,0,none⟩) m cq) m (icells U4 m):=own_off HO4.out ((k6.block q (by omega)).trans (k5.block q hq2))
     have hcy:∀j,j < m→w6.cell? ⟨y6,j,none⟩=some (.int .i64 ((y j:Nat):Int)):=fun j hj=>by
      rw [ho6.cellAt j (by omega)]
      exact icells_at (fun i=>((y i:Nat):Int)) m j hj
     have HCy:=Lib.hid hcy
     have HY:=Lib.hid hy
     have L0:Hid (∃Z,w6.ownsRow w3.heap.size 3 1 (.slice (some ⟨q,0,none⟩) m cq) m (icells Z m)∧∀j,j < 0→Z j=((d (y j):Nat):Int)):=Lib.hid ⟨U4,ho46,fun j hj=>absurd hj (Nat.not_lt_zero j)⟩
     clear HI5 hy ho6 ho46 hcy
     go_wp2_with fail
     go_loopw [40] (fun s wr=>∃k:Nat,k≤m∧s=.int .i64 (k:Int)∧Hid (∃Z,wr.ownsRow w3.heap.size 3 1 (.slice (some ⟨q,0,none⟩) m cq) m (icells Z m)∧∀j,j < k→Z j=((d (y j):Nat):Int))∧Hid (Off (fun z=>z≠q) w6 wr)) (fun s _=>m - (intOf s).toNat)
     case atStart=>exact ⟨0,Nat.zero_le _,rfl,L0,Lib.hid (Off.refl _ _)⟩
     case round=>
      clear L0
      obtain ⟨k,hk,rfl,hZ,hOf⟩:=hrel
      have s7:=hOf.out.size
      have k7:Below w3.heap.size w6 wr:=hOf.out.below (by omega) (fun z hz=>by omega)
      by_cases hlk:k < m
      · have hltk:(k:Int) < (m:Int):=by omega
        obtain ⟨Z,hZo,hZj⟩:=hZ.out
        have hyk:=HY.out.1 k hlk
        have cy:=hOf.out.cell (HCy.out k hlk) (show y6≠q by omega)
        have hPr:Its wr w2.heap.size P m (fun k=>((d k:Nat):Int)):=((((HP.out.below k3).below (k4.mono s3)).below (k5.mono (by omega))).below (k6.mono (by omega))).below (k7.mono s3)
        obtain ⟨pd,rfl,_,hcp0,_⟩:=hPr (y k) hyk
        have hcp:wr.cell? (pd.add (y k))=some (.int .i64 ((d (y k):Nat):Int)):=hcp0
        clear hcp0
        have hcq:wr.cell? ⟨q,k,none⟩=some (.int .i64 (Z k)):=by
         rw [hZo.cellAt k (by omega)]
         exact icells_at Z m k hlk
        have hfq:=owns_free hZo k
        have hym:((y k:Nat):Int) < (m:Int):=by omega
        have HZ2:Hid (∃Z',(wr.setCell ⟨q,k,none⟩ (.int .i64 ((d (y k):Nat):Int))).ownsRow w3.heap.size 3 1 (.slice (some ⟨q,0,none⟩) m cq) m (icells Z' m)∧∀j,j < k+1→Z' j=((d (y j):Nat):Int)):=Lib.hid ⟨putI Z k ((d (y k):Nat):Int),by
         have:=owns_put hZo k (.int .i64 ((d (y k):Nat):Int))
         rw [icells_put] at this
         exact this,fun j hj=>by
         by_cases e:j=k
         · rw [e,putI_at]
         · rw [putI_off _ e]
           exact hZj j (by omega)⟩
        have HOf2:Hid (Off (fun z=>z≠q) w6 (wr.setCell ⟨q,k,none⟩ (.int .i64 ((d (y k):Nat):Int)))):=Lib.hid (hOf.out.trans (Off.setCell (fun hh=>hh rfl) _))
        clear hZo hZj hZ hOf hPr hyk k7 s7
        generalize d (y k)=dk at*
        generalize y k=yk at*
        generalize Z k=zk at*
        go_wp2_with fail
        go_roundw
        case rel=>exact ⟨k+1,by omega,by go_num,HZ2,HOf2⟩
        case measure=>simp [intOf];omega
      · have hkm:k=m:=by omega
        have hge:¬(k:Int) < (m:Int):=by omega
        rw [hkm] at hZ
        obtain ⟨Z,hZo,hZj⟩:=hZ.out
        have hI:Its wr wr.heap.size (some ⟨q,0,none⟩) m (fun j=>((d (y j):Nat):Int)):=by
         obtain ⟨A',c',e',hI⟩:=ItsR.of_own hZo (fun i hi=>by
          rw [hZj i hi]
          have:=hsmall (y i) (HY.out.1 i hi)
          omega)
         cases e'
         exact hI.2.2.2.congr_ hZj
        have k57:Below w3.heap.size w5 wr:=(k6.mono (by omega)).trans k7
        have rr:=HR5.out.below k57 hT3
        have hDy:=dips_of HDu.out.toDips HY.out.1 (fun i j hi hj e=>HY.out.inj hi hj e)
        have HLf:=Lib.hid (sLaid_any rr (by omega) (some ⟨q,0,none⟩) m cq (fun j=>d (y j)) hDy hI)
        have HOrd:=Lib.hid (fun k l (hkl:k < l) (hl:l < m)=>HYo.out (y k) (y l) (HY.out.1 k (by omega)) (HY.out.1 l hl) (HY.out.2 k l hkl hl))
        have HBf:Hid (Below w.heap.size w wr):=Lib.hid (k1.trans ((k2.mono k1.size).trans ((k3.mono (by have:=k1.size;have:=k2.size;omega)).trans ((k4.mono (by have:=k1.size;have:=k2.size;omega)).trans ((k5.mono (by have:=k1.size;have:=k2.size;omega)).trans (k57.mono (by have:=k1.size;have:=k2.size;omega)))))))
        have hsz:w.heap.size≤wr.heap.size:=HBf.out.size
        clear hkm hZ hZo hZj hI rr hDy
        go_wp2_with fail
        refine HLf.out.mono ?_
        rintro e1 w8 ⟨g8,c8,S8,rfl,ho8,k8,hS8⟩
        obtain ⟨s8,hs8,he8⟩:=laid_ord hS8 HOrd.out
        have HF:Hid (w8.ownsRow w.heap.size 3 1 (.slice (some ⟨g8,0,none⟩) n c8) n (icells (fun i=>((s8 i:Nat):Int)) n)):=Lib.hid (by
         rw [←icells_congr (U:=S8) he8]
         exact own_base ho8 (Nat.le_trans hsz (ho8.lt g8 rfl).1))
        have HBf8:=Lib.hid (HBf.out.trans (k8.mono hsz))
        have HS8:=Lib.hid hs8
        clear ho8 hS8 hs8 he8
        go_wp2_with fail
        go_ret
        exact ⟨_,s8,rfl,HS8.out,HF.out,HBf8.out⟩
   · have hltu:¬(u:Int) < (m:Int):=by omega
     have hQ5:Its w5 w5.heap.size Qs m (fun j=>((d (σ j):Nat):Int)):=(HQd.out.below k5).mono_ s5
     have hDσ:=dips_of HDu.out.toDips HOr.out.lt HOr.out.inj
     have HLf:=Lib.hid (sLaid_any r5 hT5 Qs m cq (fun j=>d (σ j)) hDσ hQ5)
     have HOrd:=Lib.hid (HUn.out (by omega))
     have HBf:Hid (Below w.heap.size w w5):=Lib.hid (k1.trans ((k2.mono k1.size).trans ((k3.mono (by have:=k1.size;have:=k2.size;omega)).trans ((k4.mono (by have:=k1.size;have:=k2.size;omega)).trans (k5.mono (by have:=k1.size;have:=k2.size;omega))))))
     have hsz:w.heap.size≤w5.heap.size:=HBf.out.size
     clear ho5 r5 hQ5 hDσ
     go_wp2_with fail
     refine HLf.out.mono ?_
     rintro e1 w8 ⟨g8,c8,S8,rfl,ho8,k8,hS8⟩
     obtain ⟨s8,hs8,he8⟩:=laid_ord hS8 HOrd.out
     have HF:Hid (w8.ownsRow w.heap.size 3 1 (.slice (some ⟨g8,0,none⟩) n c8) n (icells (fun i=>((s8 i:Nat):Int)) n)):=Lib.hid (by
      rw [←icells_congr (U:=S8) he8]
      exact own_base ho8 (Nat.le_trans hsz (ho8.lt g8 rfl).1))
     have HBf8:=Lib.hid (HBf.out.trans (k8.mono hsz))
     have HS8:=Lib.hid hs8
     clear ho8 hS8 hs8 he8
     go_wp2_with fail
     go_ret
     exact ⟨_,s8,rfl,HS8.out,HF.out,HBf8.out⟩
end Go.Proofs.YtcidobpbepeakaaGreat

namespace Go.Proofs.YtcidobpbepeakaaGreat
open Go.RowKit
end Go.Proofs.YtcidobpbepeakaaGreat
namespace Go.Proofs.YtcidobpbepeakaaGreat
open Go.RowKit Go.Shelf
theorem ranked_any (A:Option Addr) (n c:Nat) (V:Nat→Int) (w:World) (hn:n≤4194304) (ho:Its w w.heap.size A n V):
    Calls Tryz.prog 50 #[.slice A n c] w fun e w'=>∃g,e=.returned (.slice (some ⟨g,0,none⟩) n n)∧w.heap.size≤g∧Lies w' g 3 (icells (xi (rkN V n)) n)∧Below w.heap.size w w':=by
 have HO:=Lib.hid ho
 obtain ⟨lo,hlo⟩:∃lo,w.heap.size=lo:=⟨_,rfl⟩
 rw [hlo] at HO ⊢
 have HVa:=Lib.hid (values_any A n c w)
 obtain ⟨w1,hw1⟩:∃w1,w.alloc (.cells #[.slice A n c] 34)=w1:=⟨_,rfl⟩
 have z1:w1.heap.size=lo+1:=by rw [←hw1,size_alloc,hlo]
 have k1:Below lo w w1:=by rw [←hw1,←hlo];exact (Below.refl _ _).alloc (Nat.le_refl _) _
 have l1:Lies w1 lo 34 [.slice A n c]:=by rw [←hw1,←hlo];exact lies_new w _ _
 have HSo:=Lib.hid (sorted_any A n c lo V w1 hn (by omega) (l1.cell 0) ((HO.out.below k1).mono_ (by omega)))
 rw [hlo,hw1] at HVa
 rw [z1] at HSo
 clear ho l1 hw1
 go_enter Tryz.func50,Tryz.ntmps50
 go_wp2_with fail
 refine HVa.out.mono ?_
 rintro e w2 ⟨rfl,rfl⟩
 clear HVa
 go_wp2_with fail
 refine HSo.out.mono ?_
 rintro e w3 ⟨v3,rfl,h3,k3⟩
 have K3:Below lo w w3:=k1.trans (k3.mono (by omega))
 have HS3:=Lib.hid h3
 obtain ⟨a,za⟩:∃a,w3.heap.size=a:=⟨_,rfl⟩
 have hal:lo+1≤a:=by have:=k3.size;omega
 have hMk:=make_ints0 w3 n hn
 rw [za] at hMk
 obtain ⟨w4,hw4⟩:∃w4,w3.alloc (.cells (icells (fun _=>0) n).toArray 3)=w4:=⟨_,rfl⟩
 have k4:Below a w3 w4:=by rw [←hw4,←za];exact (Below.refl _ _).alloc (Nat.le_refl _) _
 have l4:Lies w4 a 3 (icells (fun _=>0) n):=by rw [←hw4,←za];exact lies_new w3 _ _
 rw [hw4] at hMk
 have K4:Below lo w w4:=K3.trans (k4.mono (by omega))
 clear HSo h3 hw4
 go_wp2_with fail
 go_loopw [15] (fun s wr=>∃i:Nat,i≤n∧s=.int .i64 (i:Int)∧Hid (∃U,Lies wr a 3 (icells U n)∧∀j,j < i→U j=((rkN V n j:Nat):Int))∧Hid (Below a w3 wr)∧Hid (Below lo w wr)) (fun s _=>n - (intOf s).toNat)
 case atStart=>exact ⟨0,Nat.zero_le _,rfl,Lib.hid ⟨_,l4,fun j hj=>absurd hj (Nat.not_lt_zero j)⟩,Lib.hid k4,Lib.hid K4⟩
 case round=>
  clear l4 k4 K4 hMk
  obtain ⟨i,hi,rfl,hU,hb,hB⟩:=hrel
  by_cases hlt:i < n
  · have hlti:(i:Int) < (n:Int):=by omega
    obtain ⟨U,hL,hUj⟩:=hU.out
    obtain ⟨ad,rfl,_,hc,_⟩:=HO.out.below hB.out i hlt
    obtain ⟨g,cg,ys,rfl,hg1,hg2,hyl,hyp,hys,hyc⟩:=HS3.out.2 (by omega)
    rw [za] at hg2
    have hS:∀x:Int,Calls Tryz.prog 79 #[.slice (some ⟨g,0,none⟩) n cg,.int .i64 x] wr fun e w'=>∃bx,e=.returned (.tuple #[.int .i64 ((Pl.cnt (fun q=>decide (V q < x)) n:Nat):Int),.bool bx])∧∃q,w'=wr.drewN q:=fun x=>by
     have h:=Any.slices_BinarySearch_int searchLays g 0 n cg ys x wr (by omega) (by omega) (fun j hj=>by
      rw [Nat.zero_add]
      exact (hb.out.cell (p:=⟨g,j,none⟩) hg2).trans (hyc j (by omega))) (by rw [List.take_of_length_le (by omega)];exact hys)
     refine Calls.mono h ?_
     rintro e w' ⟨rfl,q,rfl⟩
     refine ⟨(List.take n ys).contains x,?_,q,rfl⟩
     rw [List.take_of_length_le (by omega),hyp.countP_eq,countP_cnt]
    have hcell:∀q,(wr.drewN q).cell? ⟨a,i,none⟩=some (.int .i64 (U i)):=fun q=>by
     have:=hL.cell i
     rw [icells_at _ _ _ hlt] at this
     exact this
    have hfree:∀q,(wr.drewN q).frozen? ⟨a,i,none⟩=false:=fun q=>hL.free i
    have HU2:∀q,Hid (∃U',Lies ((wr.drewN q).setCell ⟨a,i,none⟩ (.int .i64 ((rkN V n i:Nat):Int))) a 3 (icells U' n)∧∀j,j < i+1→U' j=((rkN V n j:Nat):Int)):=fun q=>Lib.hid ⟨putI U i ((rkN V n i:Nat):Int),by
     have:=(hL.drewN q).put i (.int .i64 ((rkN V n i:Nat):Int))
     rw [icells_put] at this
     exact this,fun j hj=>by
     by_cases e:j=i
     · rw [e,putI_at]
     · rw [putI_off _ e]
       exact hUj j (by omega)⟩
    have HB2:∀q,Hid (Below a w3 ((wr.drewN q).setCell ⟨a,i,none⟩ (.int .i64 ((rkN V n i:Nat):Int)))):=fun q=>Lib.hid ((below_drewN' hb.out q).setCell (p:=⟨a,i,none⟩) (Nat.le_refl _) _)
    have HB3:∀q,Hid (Below lo w ((wr.drewN q).setCell ⟨a,i,none⟩ (.int .i64 ((rkN V n i:Nat):Int)))):=fun q=>Lib.hid ((below_drewN' hB.out q).setCell (p:=⟨a,i,none⟩) (by show lo≤a;omega) _)
    have hSi:=Lib.hid (hS (V i))
    have hrk:Pl.cnt (fun q=>decide (V q < V i)) n=rkN V n i:=rfl
    rw [hrk] at hSi
    clear hU hb hB hL hUj hyp hys hyc hS hrk
    generalize rkN V n i=rk at*
    generalize V i=vi at*
    generalize U i=ui at*
    go_wp2_with fail
    refine hSi.out.mono ?_
    rintro e w' ⟨bx,rfl,q,rfl⟩
    go_wp2_with fail
    go_roundw
    case rel=>exact ⟨i+1,by omega,by go_num,HU2 _,HB2 _,HB3 _⟩
    case measure=>simp [intOf];omega
  · have hin:i=n:=by omega
    have hge:¬(i:Int) < (n:Int):=by omega
    rw [hin] at hU
    have HF:Hid (Lies wr a 3 (icells (xi (rkN V n)) n)∧Below lo w wr):=Lib.hid (by
     obtain ⟨U,hL,hUj⟩:=hU.out
     refine ⟨?_,hB.out⟩
     rw [←icells_congr (U:=U) (U':=xi (rkN V n)) hUj]
     exact hL)
    clear hin hU hb hB
    go_wp2_with fail
    go_ret
    exact ⟨a,rfl,by omega,HF.out.1,HF.out.2⟩
theorem array_any (A:Option Addr) (n c:Nat) (V:Nat→Int) (al:Int) (w:World) (hn:n≤maxLen) (hA:A=none→n=0∧c=0) (hnc:n≤c) (hcm:c≤maxLen) (ho:Its w w.heap.size A n V):
    Calls Tryz.prog 29 #[.slice A n c,.int .i64 al] w (ArrayPost w n V al):=by
 unfold ArrayPost
 have HO:=Lib.hid ho
 by_cases hR:RightS V n al
 · obtain ⟨⟨h0,h1,h2⟩,hV⟩:=hR
   obtain ⟨b,rfl⟩:∃b:Nat,al=(b:Int):=⟨al.toNat,by omega⟩
   have HR:=Lib.hid (show RightS V n (b:Int) from ⟨⟨h0,h1,h2⟩,hV⟩)
   have HFt:=Lib.hid (sufFit_is A n c V (b:Int) w.heap.size w hn ho true ⟨fun _=>⟨⟨h0,h1,h2⟩,hV⟩,fun _=>rfl⟩)
   have fin:∀(w9:World) (v:Value) (s:Nat→Nat),IsSA V n s→w.heap.size≤w9.heap.size→w9.ownsRow w.heap.size 3 1 v n (icells (fun i=>((s i:Nat):Int)) n)→∃(A':Option Addr) (c':Nat),v=.slice A' n c'∧Fresh w A' n∧ItsR w9 A' n c' (fun i=>((s i:Nat):Int)):=fun w9 v s hs _ hown=>by
    obtain ⟨A',c',rfl,hI⟩:=ItsR.of_own hown (fun i hi=>by
     have:=hs.1 i hi
     show -9223372036854775808≤((s i:Nat):Int)∧((s i:Nat):Int)≤9223372036854775807
     omega)
    refine ⟨A',c',rfl,fun hn0 ad e=>?_,hI⟩
    subst e
    exact (hown.lt ad.block (by
     obtain ⟨g,c2,e2,_⟩:=owns_some hown hn0
     cases e2
     rfl)).1
   have HFin:=Lib.hid fin
   by_cases hb:n < b
   · have hbn:(n:Int) < (b:Int):=by omega
     have HRk:=Lib.hid (ranked_any A n c V w h2 ho)
     clear ho fin
     go_enter Tryz.func29,Tryz.ntmps29
     go_wp2_with fail
     refine HFt.out.mono ?_
     rintro e w1 ⟨rfl,rfl⟩
     clear HFt
     go_wp2_with fail
     refine HRk.out.mono ?_
     rintro e w2 ⟨g,rfl,hg,l2,k2⟩
     have i2:Its w2 w2.heap.size (some ⟨g,0,none⟩) n (xi (rkN V n)):=fun k hk=>⟨_,rfl,l2.lt,by
      rw [Addr.add_mid,Nat.zero_add,l2.cell]
      exact icells_at _ _ _ hk,by
      have:=rkN_lt (V:=V) hk
      show -9223372036854775808≤((rkN V n k:Nat):Int)∧((rkN V n k:Nat):Int)≤9223372036854775807
      omega⟩
     have HOr:=Lib.hid (ordered_any n (some ⟨g,0,none⟩) n n (rkN V n) w2 h2 h2 (fun e=>by cases e) (Nat.le_refl _) hn (fun p hp=>rkN_lt hp) i2)
     clear HRk l2 i2
     go_wp2_with fail
     refine HOr.out.mono ?_
     rintro e w3 ⟨v,s,rfl,hs,hown,k3⟩
     have hs':IsSA V n s:=hs.mapped (fun i j hi hj=>(rkN_iff hi hj).symm)
     have hK:Below w.heap.size w w3:=k2.trans (k3.mono k2.size)
     obtain ⟨A',c',rfl,hF,hI⟩:=HFin.out w3 v s hs' hK.size (own_less hown k2.size)
     have HFI:=Lib.hid (And.intro hF hI)
     have HS:=Lib.hid hs'
     clear HOr hs hs' hown hF hI
     go_wp2_with fail
     go_ret2
     exact ⟨fun _=>⟨A',c',s,rfl,HS.out,HFI.out.1,HFI.out.2⟩,fun h=>absurd HR.out h,hK⟩
   · have hbn:¬(n:Int) < (b:Int):=by omega
     have hVx:∀k,k < n→V k=xi (fun p=>(V p).toNat) k:=fun k hk=>by
      have:=(hV k hk).1
      show V k=(((V k).toNat:Nat):Int)
      omega
     have HOr:=Lib.hid (ordered_any n A c b (fun p=>(V p).toNat) w h2 (by omega) hA hnc hcm (fun p hp=>by have:=hV p hp;show (V p).toNat < b;omega) (ho.congr_ hVx))
     have HVx:=Lib.hid hVx
     clear ho fin hVx
     go_enter Tryz.func29,Tryz.ntmps29
     go_wp2_with fail
     refine HFt.out.mono ?_
     rintro e w1 ⟨rfl,rfl⟩
     clear HFt
     go_wp2_with fail
     refine HOr.out.mono ?_
     rintro e w3 ⟨v,s,rfl,hs,hown,k3⟩
     have hs':IsSA V n s:=hs.mapped (fun i j hi hj=>by rw [HVx.out i hi,HVx.out j hj])
     obtain ⟨A',c',rfl,hF,hI⟩:=HFin.out w3 v s hs' k3.size hown
     have HFI:=Lib.hid (And.intro hF hI)
     have HS:=Lib.hid hs'
     clear HOr hs hs' hown hF hI
     go_wp2_with fail
     go_ret2
     exact ⟨fun _=>⟨A',c',s,rfl,HS.out,HFI.out.1,HFI.out.2⟩,fun h=>absurd HR.out h,k3⟩
 · have HR:=Lib.hid hR
   have HFt:=Lib.hid (sufFit_is A n c V al w.heap.size w hn ho false ⟨fun e=>(by cases e),fun h=>absurd h hR⟩)
   clear ho hR
   go_enter Tryz.func29,Tryz.ntmps29
   go_wp2_with fail
   refine HFt.out.mono ?_
   rintro e w1 ⟨rfl,rfl⟩
   go_wp2_with fail
   go_ret2
   exact ⟨fun h=>absurd h HR.out,fun _=>⟨none,0,rfl⟩,Below.refl _ _⟩
end Go.Proofs.YtcidobpbepeakaaGreat
