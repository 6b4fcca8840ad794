/- Texts of ours, joined: IMap DocBack. -/
import Derived.Test.YtcidobpbepeakaaGreatB01
import Derived.Maps.OwnSet
import Derived.Deep.QuietTactic
import Derived.Test.YtcidobpbepeakaaGreatB02
import Derived.Test.YtcidobpbepeakaaGreatB03
set_option maxRecDepth 1000000
set_option maxHeartbeats 6400000
namespace Go.Proofs.YtcidobpbepeakaaGreat
open Go.RowKit Go.Maps
theorem mapInt:Keyed Tryz.prog 3:=int_keyed Tryz.underlying3
theorem mapZero (w:World):(zeroValue 3).run Tryz.prog w=.ok (.int .i64 0) w:=by kernel_rfl
def IMap (w:World) (b k:Nat) (g:Int→Option Int):Prop:=
 ∃D:DataW Unit,w.ownsMap Tryz.prog 3 (plainElem Tryz.prog 3) b k D∧∀x,(Lit.int .i64 x).wf=true→Maps.has D (.int .i64 x)=(g x).isSome∧∀y,g x=some y→D.atKey (.int .i64 x) (.lit (.int .i64 0))=.lit (.int .i64 y)
def putO (g:Int→Option Int) (q y:Int):Int→Option Int:=fun x=>if x=q then some y else g x
theorem putO_at (g:Int→Option Int) (q y:Int):putO g q y q=some y:=if_pos rfl
theorem putO_off {g:Int→Option Int} {q y x:Int} (h:x≠q):putO g q y x=g x:=if_neg h
theorem imap_made (w:World):IMap (w.alloc (.map #[] 0)) w.heap.size 0 (fun _=>none):=
 ⟨_,World.ownsMap_made _ _ _ _,fun _ _=>⟨rfl,fun _ h=>by cases h⟩⟩
theorem IMap.same {w w':World} {b k:Nat} {g:Int→Option Int} (h:IMap w b k g) (e:w'.heap[b]?=w.heap[b]?):IMap w' b k g:=by
 obtain ⟨D,⟨es,clock,hb,r⟩,h2⟩:=h
 exact ⟨D,⟨es,clock,e.trans hb,r⟩,h2⟩
theorem keyLit_int (x:Int):WideAt.IsKeyLit (.int .i64 x):=trivial
section
variable {ops:Array Oper} {rest:List Oper} {o:Oper} {a:Act} {Q:Exit→Act→World→Prop}
theorem wpList_imap_hit (w:World) (hg:o.guard=none) (m x:Operand) (t:TypeId) (hop:o.op=Op.lookup t m x true) (ht:Tryz.prog.underlying t=some (.map 3 3)) (b k:Nat) (g:Int→Option Int) (hm:a.eval m=.map (some b)) (hown:IMap w b k g)
    (q y:Int) (hx:a.eval x=.int .i64 q) (hw:(Lit.int .i64 q).wf=true) (hq:g q=some y)
    (hK:wpList Tryz.prog ops Q rest (a.put o.dst (.tuple #[.int .i64 y,.bool true])) w):wpList Tryz.prog ops Q (o::rest) a w:=by
 obtain ⟨D,hD,hr⟩:=hown
 obtain ⟨h1,h2⟩:=hr q hw
 refine wpList_lookup_own_ok_int w hg m x t hop 3 3 .i64 mapInt ht Tryz.underlying3 (mapZero w) b k D hm hD _ _ hx (keyOf_int_mk Tryz.underlying3 hw) ?_
 intro c hc _
 rw [h2 y hq] at hc
 cases hc
 rw [h1,hq]
 exact hK
theorem wpList_imap_miss (w:World) (hg:o.guard=none) (m x:Operand) (t:TypeId) (hop:o.op=Op.lookup t m x true) (ht:Tryz.prog.underlying t=some (.map 3 3)) (b k:Nat) (g:Int→Option Int) (hm:a.eval m=.map (some b)) (hown:IMap w b k g)
    (q:Int) (hx:a.eval x=.int .i64 q) (hw:(Lit.int .i64 q).wf=true) (hq:g q=none)
    (hK:∀c:Int,wpList Tryz.prog ops Q rest (a.put o.dst (.tuple #[.int .i64 c,.bool false])) w):wpList Tryz.prog ops Q (o::rest) a w:=by
 obtain ⟨D,hD,hr⟩:=hown
 obtain ⟨h1,h2⟩:=hr q hw
 refine wpList_lookup_own_ok_int w hg m x t hop 3 3 .i64 mapInt ht Tryz.underlying3 (mapZero w) b k D hm hD _ _ hx (keyOf_int_mk Tryz.underlying3 hw) ?_
 intro c _ _
 rw [h1,hq]
 exact hK c
theorem wpList_imap_put (w:World) (hg:o.guard=none) (m x v:Operand) (t:TypeId) (hop:o.op=Op.mapUpdate t m x v) (ht:Tryz.prog.underlying t=some (.map 3 3)) (b k:Nat) (g:Int→Option Int) (hm:a.eval m=.map (some b)) (hown:IMap w b k g) (hk:k < maxLen)
    (q y:Int) (hx:a.eval x=.int .i64 q) (hv:a.eval v=.int .i64 y) (hw:(Lit.int .i64 q).wf=true) (hwy:(Lit.int .i64 y).wf=true)
    (hK:∀w',IMap w' b (k+1) (putO g q y)→w.grownBy w' (some b)→wpList Tryz.prog ops Q rest (a.put o.dst undef) w'):wpList Tryz.prog ops Q (o::rest) a w:=by
 obtain ⟨D,hD,hr⟩:=hown
 refine wpList_mapUpdate_own w hg m x v t hop 3 3 mapInt ht _ b k D hm hD hk _ _ _ hx hv (keyOf_int_mk Tryz.underlying3 hw) _ [] (plainElem_int Tryz.underlying3 hwy) ?_
 intro w1 hown1 hgrow1
 refine hK w1 ⟨_,hown1,fun z hz=>?_⟩ hgrow1
 by_cases e:z=q
 · subst e
   rw [has_put_same hD.isMap (keyLit_int z),putO_at]
   exact ⟨rfl,fun y' hy'=>by cases hy';exact atKey_put_same hD.isMap (keyLit_int z) _ _⟩
 · have hne:(Lit.int IntKind.i64 z)≠Lit.int IntKind.i64 q:=fun h=>e (by injection h)
   rw [has_put_other hne,putO_off e]
   exact ⟨(hr z hz).1,fun y' hy'=>by rw [atKey_put_other hne];exact (hr z hz).2 y' hy'⟩
end
end Go.Proofs.YtcidobpbepeakaaGreat

namespace Go.Proofs.YtcidobpbepeakaaGreat
open Go.RowKit
theorem moved_any (b k:Nat) (g:Int→Option Int) (d i x:Int) (w:World) (hm:IMap w b k g) (hk:k < maxLen) (hd:(Lit.int .i64 d).wf=true) (hi:(Lit.int .i64 i).wf=true):
    Calls Tryz.prog 134 #[.map (some b),.int .i64 d,.int .i64 i,.int .i64 x] w fun e w'=>e=.returned (.int .i64 ((g d).getD x))∧IMap w' b (k+1) (putO g d i)∧w.grownBy w' (some b):=by
 have HM:=Lib.hid hm
 clear hm
 rcases hg:g d with _ | y
 · have HG:=Lib.hid hg
   clear hg
   go_enter Tryz.func134,Tryz.ntmps134
   go_wp2_with (first
    | (at_lookup;refine wpList_imap_miss _ rfl _ _ _ rfl Tryz.underlying182 b k g rfl HM.out d rfl hd HG.out ?_;intro c)
    | (at_mapUpdate;refine wpList_imap_put _ rfl _ _ _ _ rfl Tryz.underlying182 b k g rfl HM.out hk d i rfl rfl hd hi ?_;intro w1 h1 h2)
    | go_in)
   go_ret
   exact ⟨rfl,h1,h2⟩
 · have HG:=Lib.hid hg
   clear hg
   go_enter Tryz.func134,Tryz.ntmps134
   go_wp2_with (first
    | (at_lookup;refine wpList_imap_hit _ rfl _ _ _ rfl Tryz.underlying182 b k g rfl HM.out d y rfl hd HG.out ?_)
    | (at_mapUpdate;refine wpList_imap_put _ rfl _ _ _ _ rfl Tryz.underlying182 b k g rfl HM.out hk d i rfl rfl hd hi ?_;intro w1 h1 h2)
    | go_in)
   go_ret
   exact ⟨rfl,h1,h2⟩
theorem itsR_lies {w:World} {g n:Nat} {U V:Nat→Int} (h:Lies w g 3 (icells U n)) (hn:n≤4194304) (hU:∀j,j < n→U j=V j) (hV:∀j,j < n→ -9223372036854775808≤V j∧V j≤9223372036854775807):ItsR w (some ⟨g,0,none⟩) n n V:=
 ⟨(fun e=>by cases e),Nat.le_refl _,by unfold maxLen;omega,fun k hk=>⟨_,rfl,h.lt,by
   rw [Addr.add_mid,Nat.zero_add,h.cell,←hU k hk]
   exact icells_at _ _ _ hk,hV k hk⟩⟩
def StoodB (V:Nat→Int) (i:Nat) (g:Int→Option Int):Prop:=∀x,(g x).getD (-1)=lookB V x i
theorem StoodB.step {V:Nat→Int} {i:Nat} {g:Int→Option Int} (h:StoodB V i g):StoodB V (i+1) (putO g (V i) (i:Int)):=fun x=>by
 by_cases e:x=V i
 · rw [e,putO_at,lookB_hit rfl]
   rfl
 · rw [putO_off e,lookB_miss (fun e'=>e e'.symm)]
   exact h x
theorem docBack_lies (A:Option Addr) (n c:Nat) (V:Nat→Int) (w:World) (hn:n≤4194303) (ho:ItsR w A n c V):
    Calls Tryz.prog 90 #[.slice A n c] w fun e w'=>e=.returned (.slice (some ⟨w.heap.size,0,none⟩) n n)∧Lies w' w.heap.size 3 (icells (lastD V) n)∧Below w.heap.size w w':=by
 have HO:=Lib.hid ho
 clear ho
 have hMk:=make_ints0 w n (by omega)
 have l2:=lies_new w 3 (icells (fun _=>0) n)
 have hb2:Below w.heap.size w (w.alloc (.cells (icells (fun _=>0) n).toArray 3)):=(Below.refl _ _).alloc (Nat.le_refl _) _
 have hs2:(w.alloc (.cells (icells (fun _=>0) n).toArray 3)).heap.size=w.heap.size+1:=size_alloc _ _
 obtain ⟨w2,hw2⟩:∃w2,w.alloc (.cells (icells (fun _=>0) n).toArray 3)=w2:=⟨_,rfl⟩
 rw [hw2] at hMk l2 hb2 hs2
 have hmm:=run_makeMap (P:=Tryz.prog) 182 w2
 have m3:=imap_made w2
 have hb3:Below w.heap.size w (w2.alloc (.map #[] 0)):=hb2.alloc hb2.size _
 have l3:=l2.alloc (.map #[] 0)
 obtain ⟨w3,hw3⟩:∃w3,w2.alloc (.map #[] 0)=w3:=⟨_,rfl⟩
 rw [hw3] at m3 hb3 l3 hmm
 rw [hs2] at m3 hmm
 obtain ⟨G,hG⟩:∃G,w.heap.size=G:=⟨_,rfl⟩
 rw [hG] at hMk l3 m3 hb3 hmm ⊢
 have HO':Hid (Its w G A n V):=Lib.hid (by rw [←hG];exact HO.out.2.2.2)
 have hGle:G≤w.heap.size:=Nat.le_of_eq hG.symm
 clear l2 hb2 HO hw2 hw3 hs2 hG
 go_enter Tryz.func90,Tryz.ntmps90
 go_wp2_with fail
 go_loopw [13] (fun s wr=>∃i:Nat,i≤n∧s=.int .i64 (i:Int)∧Hid (∃U,Lies wr G 3 (icells U n)∧∀j,j < i→U j=lastD V j)∧Hid (∃g,IMap wr (G+1) i g∧StoodB V i g)∧Below G w wr) (fun s _=>n - (intOf s).toNat)
 case atStart=>exact ⟨0,Nat.zero_le _,rfl,Lib.hid ⟨_,l3,fun j hj=>absurd hj (Nat.not_lt_zero j)⟩,Lib.hid ⟨_,m3,fun _=>rfl⟩,hb3⟩
 case round=>
  clear l3 m3 hb3 hMk hmm
  obtain ⟨i,hi,rfl,hU,hM,hb⟩:=hrel
  by_cases hlt:i < n
  · have hlti:(i:Int) < (n:Int):=by omega
    obtain ⟨ad,rfl,_,hc,hv1,hv2⟩:=HO'.out.below hb i hlt
    obtain ⟨g,hg,hs⟩:=hM.out
    have HMv:=Lib.hid (moved_any (G+1) i g (V i) (i:Int) (-1) wr hg (by unfold maxLen;omega) (HO'.out.wf hlt) (WalkArith.wf_i64 (by omega)))
    have HE:Hid ((g (V i)).getD (-1)=lastD V i):=Lib.hid (hs (V i))
    have HS2:=Lib.hid hs.step
    obtain ⟨U,hL,hd⟩:=hU.out
    rw [HE.out] at HMv
    obtain ⟨v,hv⟩:∃v,V i=v:=⟨_,rfl⟩
    rw [hv] at hc hv1 hv2 HMv HS2
    obtain ⟨z,hz⟩:∃z,lastD V i=z:=⟨_,rfl⟩
    rw [hz] at HMv
    have HZ:=Lib.hid hz
    clear hU hM hg hs hv HE hz
    go_wp2_with fail
    refine HMv.out.mono ?_
    rintro e w3 ⟨rfl,m3,g3⟩
    have l3:Lies w3 G 3 (icells U n):=hL.grown g3 (fun e=>by injection e with e;omega)
    have hb3:Below G w w3:=hb.grown g3 (Nat.le_trans hGle hb.size) (fun j hj=>by cases hj;omega)
    have hcell:w3.cell? ⟨G,i,none⟩=some (.int .i64 (U i)):=by
     rw [l3.cell]
     exact icells_at _ _ _ hlt
    have hfree:=l3.free i
    have HU2:Hid (∃U',Lies (w3.setCell ⟨G,i,none⟩ (.int .i64 z)) G 3 (icells U' n)∧∀j,j < i+1→U' j=lastD V j):=Lib.hid ⟨putI U i z,by
     have:=l3.put i (.int .i64 z)
     rw [icells_put] at this
     exact this,fun j hj=>by
      by_cases e:j=i
      · rw [e,putI_at,HZ.out]
      · rw [putI_off _ e];exact hd j (by omega)⟩
    have HM2:Hid (∃g,IMap (w3.setCell ⟨G,i,none⟩ (.int .i64 z)) (G+1) (i+1) g∧StoodB V (i+1) g):=Lib.hid ⟨_,m3.same (Below.heap_setCell _ _ _ _ (by show G+1≠G;omega)),HS2.out⟩
    have hB4:Below G w (w3.setCell ⟨G,i,none⟩ (.int .i64 z)):=hb3.setCell (p:=⟨G,i,none⟩) (Nat.le_refl _) _
    clear HMv HS2 HZ m3 g3 l3 hb3 hL hd hb
    go_wp2_with fail
    go_roundw
    case rel=>exact ⟨i+1,by omega,by go_num,HU2,HM2,hB4⟩
    case measure=>simp [intOf];omega
  · obtain rfl:i=n:=by omega
    have hge:¬(i:Int) < (i:Int):=by omega
    go_wp2_with fail
    go_ret
    obtain ⟨U,hL,hd⟩:=hU.out
    exact ⟨rfl,by rw [←icells_congr hd];exact hL,hb⟩
end Go.Proofs.YtcidobpbepeakaaGreat
