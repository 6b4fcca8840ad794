/- Texts of ours, joined: IntOver. -/
import Derived.Test.YtcidobpbepeakaaGreatB04
import Derived.Test.YtcidobpbepeakaaGreatB01
import Derived.Laws.CopyOwn
set_option maxRecDepth 1000000
set_option maxHeartbeats 6400000
namespace Go.Proofs.YtcidobpbepeakaaGreat
open Go.RowKit
def overI (U:Nat→Int) (o m:Nat) (V:Nat→Int):Nat→Int:=fun k=>if o≤k∧k < o+m then V (k - o) else U k
theorem overI_cells (U V:Nat→Int) (n o m:Nat) (h:o+m≤n):(icells U n).take o++(icells V m++(icells U n).drop (o+m))=icells (overI U o m V) n:=by
 apply List.ext_getElem?
 intro k
 by_cases hk:k < n
 · rw [icells_at _ _ _ hk]
   unfold overI
   by_cases h1:k < o
   · rw [List.getElem?_append_left (by rw [List.length_take,icells_length];omega),List.getElem?_take,if_pos h1,icells_at _ _ _ hk,if_neg (by omega)]
   · have hl:(List.take o (icells U n)).length=o:=by rw [List.length_take,icells_length];omega
     rw [List.getElem?_append_right (by omega),hl]
     by_cases h2:k < o+m
     · rw [List.getElem?_append_left (by rw [icells_length];omega),icells_at _ _ _ (by omega),if_pos ⟨by omega,h2⟩]
     · rw [List.getElem?_append_right (by rw [icells_length];omega),icells_length,List.getElem?_drop,show o+m+(k - o - m)=k by omega,icells_at _ _ _ hk,if_neg (by omega)]
 · rw [List.getElem?_eq_none (by simp [icells_length];omega),List.getElem?_eq_none (by rw [icells_length];omega)]
theorem size_i64b:(Tryz.prog.info? 3).map (·.size)=some 1:=by kernel_rfl
theorem off_setRow (g:Nat) (w:World) (cs:Array Value):Off (fun q=>q≠g) w (w.setRow g cs):=by
 refine ⟨rfl,rfl,rfl,by simp [World.setRow],fun k hk hne=>?_⟩
 simp only [World.setRow,Array.getElem?_modify]
 rw [if_neg (fun e=>hne e.symm)]
theorem int_copy {w:World} {g n o dm dc m c k:Nat} {U V:Nat→Int} {ad:Addr} (h:Lies w g 3 (icells U n)) (hk:k=Nat.min m dm) (ho:o+k≤n) (hs:∀j,j < k→w.cell? (ad.add j)=some (.int .i64 (V j))):
    ∃w2,(Builtin.copy_ #[34,34] 3 #[.slice (some ⟨g,o,none⟩) dm dc,.slice (some ad) m c]).run Tryz.prog w=.ok (.int .i64 (k:Int)) w2∧Lies w2 g 3 (icells (overI U o k V) n)∧Off (fun q=>q≠g) w w2:=by
 have hrun:=run_copy_row (P:=Tryz.prog) w 34 34 3 3 g o dm dc ad m c (icells U n).toArray 3 (icells V k) Tryz.underlying34 size_i64b h (by rw [icells_length];exact hk) (fun j v hj=>by
  have hjm:j < k:=by
   have:=(List.getElem?_eq_some_iff.1 hj).1
   rw [icells_length] at this
   exact this
  rw [icells_at V k j hjm] at hj
  rw [←hj]
  exact hs j hjm) (by rw [icells_length];simp [icells_length];omega) (icells_one V k)
 rw [icells_length] at hrun
 refine ⟨_,hrun,?_,off_setRow _ _ _⟩
 have:=setRow_heap w g _ (List.take o (icells U n).toArray.toList++icells V k++List.drop (o+k) (icells U n).toArray.toList).toArray 3 (0,0) h
 unfold Lies
 rw [this,←overI_cells U V n o k ho,List.append_assoc]
theorem int_copy_own {w:World} {B g n cap o dm dc m c k:Nat} {U V:Nat→Int} {ad:Addr} (h:w.ownsRow B 3 1 (.slice (some ⟨g,0,none⟩) n cap) n (icells U n)) (hk:k=Nat.min m dm) (ho:o+k≤n) (hs:∀j,j < k→w.cell? (ad.add j)=some (.int .i64 (V j))):
    ∃w2,(Builtin.copy_ #[34,34] 3 #[.slice (some ⟨g,o,none⟩) dm dc,.slice (some ad) m c]).run Tryz.prog w=.ok (.int .i64 (k:Int)) w2∧w2.ownsRow B 3 1 (.slice (some ⟨g,0,none⟩) n cap) n (icells (overI U o k V) n)∧Off (fun q=>q≠g) w w2:=by
 rcases h.2 with ⟨e0,_⟩ | ⟨g',cap',cur,e0,hb,hg,hn,hm,hsz,ht⟩
 · cases e0
 · injection e0 with e1 _ e3
   injection e1 with e1
   injection e1 with e1
   subst e1;subst e3
   have hcs:cur.size=cap:=by omega
   have hrun:=run_copy_row (P:=Tryz.prog) w 34 34 3 3 g o dm dc ad m c cur 3 (icells V k) Tryz.underlying34 size_i64b hg (by rw [icells_length];exact hk) (fun j v hj=>by
    have hjm:j < k:=by
     have:=(List.getElem?_eq_some_iff.1 hj).1
     rw [icells_length] at this
     exact this
    rw [icells_at V k j hjm] at hj
    rw [←hj]
    exact hs j hjm) (by rw [icells_length];omega) (icells_one V k)
   rw [icells_length] at hrun
   refine ⟨_,hrun,⟨by simp [icells_length],.inr ⟨g,cap,_,rfl,hb,setRow_heap w g cur _ 3 (0,0) hg,hn,hm,?_,?_⟩⟩,off_setRow _ _ _⟩
   · simp [icells_length]
     omega
   · have hU:cur.toList.take n=icells U n:=by simpa using ht
     rw [Nat.mul_one,←overI_cells U V n o k ho,←hU]
     show List.take n (List.take o cur.toList++icells V k++List.drop (o+k) cur.toList)=_
     have hlc:cur.toList.length=cap:=by simpa using hcs
     have three:∀(a b c:List Value) (o m:Nat),a.length=o→b.length=m→∀k,(a++(b++c))[k]?=if k < o then a[k]? else if k < o+m then b[k - o]? else c[k - (o+m)]?:=fun a b c o m ha hb k=>by
      split
      · rw [List.getElem?_append_left (by omega)]
      · rw [List.getElem?_append_right (by omega),ha]
        split
        · rw [List.getElem?_append_left (by omega)]
        · rw [List.getElem?_append_right (by omega),hb,show k - o - m=k - (o+m) by omega]
     apply List.ext_getElem?
     intro j
     by_cases hj:j < n
     · rw [List.getElem?_take,if_pos hj,List.append_assoc,three _ _ _ o k (by rw [List.length_take];omega) (icells_length V k),three _ _ _ o k (by rw [List.length_take,List.length_take];omega) (icells_length V k)]
       by_cases h1:j < o
       · rw [if_pos h1,if_pos h1,List.getElem?_take,if_pos h1,List.getElem?_take,if_pos h1,List.getElem?_take,if_pos hj]
       · rw [if_neg h1,if_neg h1]
         by_cases h2:j < o+k
         · rw [if_pos h2,if_pos h2]
         · rw [if_neg h2,if_neg h2,List.getElem?_drop,List.getElem?_drop,List.getElem?_take,if_pos (by omega)]
     · rw [List.getElem?_take,if_neg hj,List.getElem?_eq_none]
       rw [←List.append_assoc]
       simp [icells_length,hlc]
       omega
end Go.Proofs.YtcidobpbepeakaaGreat
