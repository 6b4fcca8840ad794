/- Texts of ours, joined: SortRow. -/
import Derived.Test.YtcidobpbepeakaaGreatB01
import Derived.Shelf.Sort.Plain
import Derived.Shelf.Slices.In.SortNone
import Derived.Lib.SortBridge
set_option maxRecDepth 1000000
set_option maxHeartbeats 6400000
namespace Go.Proofs.YtcidobpbepeakaaGreat
open Go.RowKit Go.Shelf
theorem below_cells {B b:Nat} (hb:B≤b):∀(vs:List Value) (o:Nat) (w:World),Below B w (w.setCells b o vs)
 | [],_,_=>Below.refl _ _
 | v::r,o,w=>((Below.refl B w).setCell (p:=⟨b,o,none⟩) hb v).trans (below_cells hb r (o+1) _)
theorem below_grow_ {B:Nat} {w:World} (hB:B≤w.heap.size) (os:Array Obj):Below B w (Go.Sort.grow w os):=⟨rfl,rfl,rfl,by simp [Go.Sort.grow],fun k hk=>by
 have:k < w.heap.size:=by omega
 simp [Go.Sort.grow,Array.getElem?_append,this]⟩
def sortLays_ren:Go.Shelf.Ren:=⟨fun | 189=>66 | 125=>113 | 257=>112 | 128=>169 | 129=>131 | 294=>161 | 295=>162 | 296=>163 | 297=>164 | 298=>165 | 299=>166 | 216=>123 | 300=>167 | 301=>168 | 328=>184 | 329=>185 | 330=>186 | 331=>187 | 332=>188 | 215=>174 | 343=>194 | n=>n,fun | 28=>34 | 3=>3 | 46=>58 | 0=>0 | 51=>206 | 53=>136 | 4=>4 | 183=>201 | 182=>200 | 131=>128 | 5=>5 | 9=>9 | 218=>221 | 222=>225 | 228=>233 | 229=>51 | n=>n,fun | n=>n⟩
theorem sortLays:Go.Proofs.Lays.n189 Tryz.prog sortLays_ren:={
 mixed:=by kernel_rfl
 f125:=Tryz.func113.trans (congrArg some (by kernel_rfl))
 f128:=Tryz.func169.trans (congrArg some (by kernel_rfl))
 f129:=Tryz.func131.trans (congrArg some (by kernel_rfl))
 f189:=Tryz.func66.trans (congrArg some (by kernel_rfl))
 f215:=Tryz.func174.trans (congrArg some (by kernel_rfl))
 f216:=Tryz.func123.trans (congrArg some (by kernel_rfl))
 f257:=Tryz.func112.trans (congrArg some (by kernel_rfl))
 f294:=Tryz.func161.trans (congrArg some (by kernel_rfl))
 f295:=Tryz.func162.trans (congrArg some (by kernel_rfl))
 f296:=Tryz.func163.trans (congrArg some (by kernel_rfl))
 f297:=Tryz.func164.trans (congrArg some (by kernel_rfl))
 f298:=Tryz.func165.trans (congrArg some (by kernel_rfl))
 f299:=Tryz.func166.trans (congrArg some (by kernel_rfl))
 f300:=Tryz.func167.trans (congrArg some (by kernel_rfl))
 f301:=Tryz.func168.trans (congrArg some (by kernel_rfl))
 f328:=Tryz.func184.trans (congrArg some (by kernel_rfl))
 f329:=Tryz.func185.trans (congrArg some (by kernel_rfl))
 f330:=Tryz.func186.trans (congrArg some (by kernel_rfl))
 f331:=Tryz.func187.trans (congrArg some (by kernel_rfl))
 f332:=Tryz.func188.trans (congrArg some (by kernel_rfl))
 f343:=Tryz.func194.trans (congrArg some (by kernel_rfl))
 t0:=Tryz.underlying0
 a0:=Tryz.isAgg0
 z0:=Tryz.sizeOf0
 v0:=Tryz.zeroValue0
 t3:=Tryz.underlying3
 a3:=Tryz.isAgg3
 z3:=Tryz.sizeOf3
 v3:=Tryz.zeroValue3
 t4:=Tryz.underlying4
 a4:=Tryz.isAgg4
 z4:=Tryz.sizeOf4
 v4:=Tryz.zeroValue4
 t5:=Tryz.underlying5
 a5:=Tryz.isAgg5
 z5:=Tryz.sizeOf5
 v5:=Tryz.zeroValue5
 t9:=Tryz.underlying9
 a9:=Tryz.isAgg9
 z9:=Tryz.sizeOf9
 v9:=Tryz.zeroValue9
 t28:=Tryz.underlying34
 a28:=Tryz.isAgg34
 z28:=Tryz.sizeOf34
 v28:=Tryz.zeroValue34
 t46:=Tryz.underlying58
 a46:=Tryz.isAgg58
 z46:=Tryz.sizeOf58
 v46:=Tryz.zeroValue58
 t51:=Tryz.underlying206
 a51:=Tryz.isAgg206
 z51:=Tryz.sizeOf206
 v51:=Tryz.zeroValue206
 t53:=Tryz.underlying136
 a53:=Tryz.isAgg136
 z53:=Tryz.sizeOf136
 v53:=Tryz.zeroValue136
 t131:=Tryz.underlying128
 a131:=Tryz.isAgg128
 z131:=Tryz.sizeOf128
 v131:=Tryz.zeroValue128
 t182:=Tryz.underlying200
 a182:=Tryz.isAgg200
 z182:=Tryz.sizeOf200
 v182:=Tryz.zeroValue200
 t183:=Tryz.underlying201
 a183:=Tryz.isAgg201
 z183:=Tryz.sizeOf201
 v183:=Tryz.zeroValue201
 t218:=Tryz.underlying221
 a218:=Tryz.isAgg221
 z218:=Tryz.sizeOf221
 v218:=Tryz.zeroValue221
 t222:=Tryz.underlying225
 a222:=Tryz.isAgg225
 z222:=Tryz.sizeOf225
 v222:=Tryz.zeroValue225
 t228:=Tryz.underlying233
 a228:=Tryz.isAgg233
 z228:=Tryz.sizeOf233
 v228:=Tryz.zeroValue233
 t229:=Tryz.underlying51
 a229:=Tryz.isAgg51
 z229:=Tryz.sizeOf51
 v229:=Tryz.zeroValue51 }
theorem sortRow_in {w1:World} {G n cap lo:Nat} {V:Nat→Int} (hlo:lo≤G) (hn:n≤4194304) (hlt:G < w1.heap.size) (hce:∀j,j < n→w1.cell? ⟨G,j,none⟩=some (.int .i64 (V j))) (hfr:∀j,j < n→w1.frozen? ⟨G,j,none⟩=false):
    Calls Tryz.prog 66 #[.slice (some ⟨G,0,none⟩) n cap] w1 fun e w'=>e=.returned (.tuple #[])∧(G < w'.heap.size∧∃ys:List Int,ys.length=n∧ys.Perm ((List.range n).map V)∧ys.Pairwise (·≤·)∧∀j,j < n→w'.cell? ⟨G,j,none⟩=some (.int .i64 (ys.getD j 0)))∧Below lo w1 w':=by
 obtain ⟨zs,hzs⟩:∃zs,(List.range n).map V=zs:=⟨_,rfl⟩
 have hzl:zs.length=n:=by rw [←hzs];simp
 have hzd:∀j,j < n→zs.getD j 0=V j:=fun j hj=>by
  rw [←hzs,List.getD_eq_getElem?_getD,List.getElem?_map,List.getElem?_range hj]
  rfl
 have hcell:∀j,j < zs.length→w1.cell? ⟨G,0+j,none⟩=some (.int .i64 (zs.getD j 0)):=fun j hj=>by
  rw [hzl] at hj
  rw [Nat.zero_add,hzd j hj]
  exact hce j hj
 have hH:=Lib.holds_of_ints (n:=zs.length) (Nat.le_refl _) hcell (fun j hj=>by
  rw [hzl] at hj
  rw [Nat.zero_add]
  exact hfr j hj)
 rw [List.take_of_length_le (Nat.le_refl _)] at hH
 have hS:=Any.slices_Sort_int sortLays G 0 cap zs w1 hH hlt (by omega)
 have hyl:(zs.mergeSort fun x y=>decide (x≤y)).length=zs.length:=by simp
 rw [hzl] at hS
 refine Calls.mono hS ?_
 rintro e w2 ⟨rfl,q,os,rfl⟩
 rw [Lib.sorted_world _ w1 G 0 q _ _ os hH (by simp)]
 have hb:Below lo w1 (Go.Sort.grow ((w1.drewN q).setCells G 0 ((zs.mergeSort fun x y=>decide (x≤y)).map (Value.int .i64))) os):=by
  have h3:Below lo w1 ((w1.drewN q).setCells G 0 ((zs.mergeSort fun x y=>decide (x≤y)).map (Value.int .i64))):=(below_drewN' (Below.refl lo w1) q).trans (below_cells hlo _ _ _)
  exact h3.trans (below_grow_ (by have:=h3.size;have:=hlt;omega) os)
 refine ⟨rfl,⟨Nat.lt_of_lt_of_le hlt hb.size,zs.mergeSort fun x y=>decide (x≤y),hyl.trans hzl,by rw [hzs];exact List.mergeSort_perm _ _,?_,fun j hj=>?_⟩,hb⟩
 · have:=List.pairwise_mergeSort (le:=fun (x y:Int)=>decide (x≤y)) (fun a b c h1 h2=>by simp at h1 h2 ⊢;omega) (fun a b=>by simp;omega) zs
   exact this.imp (by simp)
 · have:=Lib.cells_sorted_ints (W:=w1) (b:=G) (off:=0) (n:=zs.length) (q:=q) (zs:=zs) (ys:=zs.mergeSort fun x y=>decide (x≤y)) (os:=os) (Nat.le_refl _) hyl hcell j (by simp [hzl];omega)
   rw [Nat.zero_add] at this
   rw [this]
   congr 2
   rw [List.getD_eq_getElem?_getD,List.getD_eq_getElem?_getD,List.getElem?_append_left (by simp [hzl];exact hj)]
theorem sortRow_any {w1:World} {G n lo:Nat} {V:Nat→Int} (hlo:lo≤G) (hn:n≤4194304) (hl:Lies w1 G 3 (icells V n)):
    Calls Tryz.prog 66 #[.slice (some ⟨G,0,none⟩) n n] w1 fun e w'=>e=.returned (.tuple #[])∧(G < w'.heap.size∧∃ys:List Int,ys.length=n∧ys.Perm ((List.range n).map V)∧ys.Pairwise (·≤·)∧∀j,j < n→w'.cell? ⟨G,j,none⟩=some (.int .i64 (ys.getD j 0)))∧Below lo w1 w':=
 sortRow_in hlo hn hl.lt (fun j hj=>by rw [hl.cell];exact icells_at V n j hj) (fun j _=>hl.free j)
end Go.Proofs.YtcidobpbepeakaaGreat
