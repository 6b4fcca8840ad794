/- Texts of ours, joined: Region SaRound. -/
import Derived.Test.YtcidobpbepeakaaGreatRows
import Derived.RegionTactic
import Derived.Below
import Derived.Test.YtcidobpbepeakaaGreatB04
import Derived.Deep.RegionHeld3
import Derived.StillTailTactics
set_option maxRecDepth 1000000
set_option maxHeartbeats 6400000
namespace Go.Proofs.YtcidobpbepeakaaGreat
open Go.RowKit
def dstOf (ops:Array Oper) (i:Nat):Option Tmp:=(ops[i]?).bind (·.dst)
section
variable {P:Program} {ops:Array Oper} {Q:Exit→Act→World→Prop} {Ψ:Nat→Value→World→Prop} {a0:Act} {w0:World}
structure At (ops:Array Oper) (Ψ:Nat→Value→World→Prop) (a0:Act) (w0:World) (listed:Array Bool) (a:Act) (w:World):Prop where
 defers:a.defers=a0.defers
 size:a.tmps.size=a0.tmps.size
 old:∀d,(∀i,dstOf ops i≠some d)→a.tmps.getD d undef=a0.tmps.getD d undef
 below:Below w0.heap.size w0 w
 facts:∀j d,listed.getD j false=true→dstOf ops j=some d→Ψ j (a.tmps.getD d undef) w
end
end Go.Proofs.YtcidobpbepeakaaGreat
namespace Go.Proofs.YtcidobpbepeakaaGreat
open Go.RowKit
section
variable {P:Program} {ops:Array Oper} {Q:Exit→Act→World→Prop}
theorem yielded_at {g d:Nat} {t:Array Value} {u:Value} (hd:dstOf ops g=some d) (hv:t.getD d undef=u):∀b,(yielded ops t g=some b↔u=.bool b):=by
 intro b
 unfold dstOf at hd
 unfold yielded
 rw [hd]
 subst hv
 show (match t[d]? with | some (.bool b)=>some b | _=>none)=some b↔_
 rw [Array.getD_eq_getD_getElem?]
 rcases h:t[d]? with _ | u
 · simp [undef]
 · cases u <;> simp
end
end Go.Proofs.YtcidobpbepeakaaGreat

namespace Go.Proofs.YtcidobpbepeakaaGreat
open Go.RowKit
section
variable {P:Program} {ops:Array Oper} {Q:Exit→Act→World→Prop} {r:Nat}
def noDeferB (ops:Array Oper):Bool:=ops.all fun o=>match o.op with
 | .defer _=>false
 | _=>true
theorem noDefer {i:Nat} {o:Oper} (h:noDeferB ops=true) (ho:ops[i]?=some o):∀c,o.op≠.defer c:=fun c e=>by
 unfold noDeferB at h
 rw [Array.all_eq_true] at h
 obtain ⟨hi,rfl⟩:=Array.getElem?_eq_some_iff.1 ho
 have:=h i hi
 rw [e] at this
 cases this
theorem op_in_round {o:Oper} {K:Act→World→Prop} {a:Act} {w:World} (hd:∀c,o.op≠.defer c) (h:o.wp P a w K Q):o.wpIn (Fence.wide.inRound r) 0 P a w K Q:=by
 refine ⟨fun _ _=>trivial,?_⟩
 rw [Oper.semAt_eq _ _ _ hd]
 unfold Oper.wp at h
 revert h
 cases (execOp a.eval o).run P w with
 | ok x w'=>
   cases x with
   | value v=>exact fun h=>h
   | skip=>exact fun h=>h
   | defer d=>exact fun h=>h
   | enter f args=>
     intro h
     exact ⟨fun e=>(by cases e),CallsIn.inRound r (callsIn_wide.2 h)⟩
   | row s args=>
     intro h
     refine ⟨fun e=>(by cases e),fun c cs _=>?_⟩
     obtain ⟨v,w'',hR,hs⟩:=h c cs
     exact ⟨v,w'',hR,stepsIn_wide.2 hs⟩
   | _=>exact fun h=>h.elim
 | halt x w'=>
   cases x <;> first | exact fun h=>h | exact fun h=>h.elim
theorem any_in_round (hd:noDeferB ops=true) (hQ:¬LetsOut Q):∀fuel listed a w,wpAny P .any ops Q fuel listed a w→wpAnyIn (Fence.wide.inRound r) 0 P .any ops Q fuel listed a w:=by
 intro fuel
 induction fuel with
 | zero=>intro listed a w h;exact h
 | succ fuel ih=>
   intro listed a w h
   refine ⟨h.1,fun i hi=>?_⟩
   have h2:=h.2 i hi
   unfold wpOp at h2
   unfold wpOpIn
   rcases ho:ops[i]? with _ | o
   · rw [ho] at h2
     exact ih _ _ _ h2
   · rw [ho] at h2
     have h2:if Region.wanted o (yielded ops a.tmps) then o.wp P a w (wpAny P .any ops Q fuel (listed.setIfInBounds i true)) Q∨(o.asks P a w∧LetsOut Q) else wpAny P .any ops Q fuel (listed.setIfInBounds i true) (a.put o.dst undef) w:=h2
     show if Region.wanted o (yielded ops a.tmps) then o.wpIn (Fence.wide.inRound r) 0 P a w (wpAnyIn (Fence.wide.inRound r) 0 P .any ops Q fuel (listed.setIfInBounds i true)) Q else (∀f,o.about P w a.eval=some f→(Fence.wide.inRound r).fn f)∧wpAnyIn (Fence.wide.inRound r) 0 P .any ops Q fuel (listed.setIfInBounds i true) (a.put o.dst undef) w
     by_cases hw:Region.wanted o (yielded ops a.tmps)=true
     · rw [if_pos hw] at h2 ⊢
       rcases h2 with h2 | h2
       · exact op_in_round (noDefer hd ho) (Oper.wp_mono (fun a w h=>ih _ _ _ h) h2)
       · exact absurd h2.2 hQ
     · rw [if_neg hw] at h2 ⊢
       exact ⟨fun _ _=>trivial,ih _ _ _ h2⟩
theorem still_any {a:Act} {w:World} {l:List Oper} (n:Nat) (hB:Region.lexTailB .any l.toArray n=true) (h:wpStill P l.toArray w (fun a'=>wpList P l.toArray Q (l.drop n) a' w) (l.take n) a):
    wpAny P .any l.toArray Q l.toArray.size (Array.replicate l.toArray.size false) a w:=by
 unfold Region.lexTailB at hB
 rw [Bool.and_eq_true,Bool.and_eq_true,Bool.and_eq_true,Bool.and_eq_true,decide_eq_true_eq] at hB
 obtain ⟨⟨⟨⟨b1,b2⟩,b3⟩,b4⟩,b5⟩:=hB
 have e1:(l.take n).length=n:=by
  have:n < l.length:=by simpa using b2
  simp;omega
 have e2:(l.drop n).length=l.toArray.size - n:=by simp
 have inv:HeadInv .any l.toArray n (Array.replicate l.toArray.size false):=by
  refine ⟨by simp,fun j oj _ hl=>?_,fun t _ ht=>getD_in (by simpa using ht) (getD_replicate_false _ _)⟩
  rw [getD_replicate_false] at hl
  cases hl
 have h1:=wpAnyL_lex (md:=.any) (g:=l.toArray.size - n) b1 b3 b4 b2 (l.take n) 0 _ a (fun j hj=>by
  rw [e1] at hj
  simp [hj]) (by rw [e1,Nat.zero_add]) inv (by rw [e1];exact b5) h
 have h2:=wpAny_of_head (Q':=Q) (g:=l.toArray.size - n) (fun listed a' hL=>by
  have:=wpAny_of_seq (md:=.any) (Q':=Q) (l.drop n) n listed a' w (fun j=>by simp [List.getElem?_drop]) (by rw [e2];exact hL.1) hL.2
  rw [e2] at this
  exact this) _ _ _ h1
 rw [e1,show n+(l.toArray.size - n)=l.toArray.size by omega] at h2
 exact h2
theorem still_in_round {id:Nat} {a:Act} {w:World} {l:List Oper} (n:Nat) (hm:P.follows .mixedOrders=true) (hB:Region.lexTailB .any l.toArray n=true) (hd:noDeferB l.toArray=true) (hQ:¬LetsOut Q)
    (h:∀ops,l.toArray=ops→wpStill P ops w.drew (fun a'=>wpList P ops Q (l.drop n) a' w.drew) (l.take n) a):(Code.region id l.toArray true).wpIn (Fence.wide.inRound r) 0 P Q a w:=
 wpIn_region_any hm (any_in_round hd hQ _ _ _ _ (still_any n hB (h _ rfl)))
theorem still_passed {o:Oper} {rest:List Oper} {a:Act} {w:World} {Qs:Act→Prop} {g d:Nat} {b:Bool} {u:Value} (hg:o.guard=some (g,b)) (hd:dstOf ops g=some d) (hv:a.tmps.getD d undef=u) (hu:u≠.bool b)
    (h:∀K:Act→Prop,(∀a,wpStill P ops w Qs rest a→K a)→K (a.put o.dst undef)):wpStill P ops w Qs (o::rest) a:=by
 refine wpStill_step fun K hK=>?_
 rw [if_neg (by
  unfold Region.wanted
  rw [hg]
  show ¬(yielded ops a.tmps g==some b)=true
  intro e
  rw [beq_iff_eq] at e
  exact hu ((yielded_at hd hv b).1 e))]
 exact h K hK
theorem still_wanted {o:Oper} {rest:List Oper} {a:Act} {w:World} {Qs:Act→Prop} {g d:Nat} {b:Bool} (hg:o.guard=some (g,b)) (hd:dstOf ops g=some d) (hv:a.tmps.getD d undef=.bool b)
    (h:∀K:Act→Prop,(∀a,wpStill P ops w Qs rest a→K a)→o.still P a w K):wpStill P ops w Qs (o::rest) a:=by
 refine wpStill_step fun K hK=>?_
 rw [if_pos (by
  unfold Region.wanted
  rw [hg]
  show (yielded ops a.tmps g==some b)=true
  rw [(yielded_at hd hv b).2 rfl]
  simp)]
 exact h K hK
end
end Go.Proofs.YtcidobpbepeakaaGreat
