/- Texts of ours, joined: Len Blen. -/
import Derived.Shelf.Strconv.Itoa0
import Derived.Test.YtcidobpbepeakaaGreatB01
set_option maxRecDepth 1000000
set_option maxHeartbeats 6400000
namespace Go.Proofs.YtcidobpbepeakaaGreat
open Go.RowKit
def len64_ren:Go.Shelf.Ren:=⟨fun | 129=>131 | n=>n,fun | 53=>136 | 3=>3 | 4=>4 | 46=>58 | 5=>5 | 9=>9 | n=>n,fun | n=>n⟩
theorem len64_lays:Go.Proofs.Lays.n129 Tryz.prog len64_ren:={
 mixed:=by kernel_rfl
 f129:=Tryz.func131.trans (congrArg some (by kernel_rfl))
 t3:=Tryz.underlying3
 a3:=Tryz.isAgg3
 z3:=Tryz.sizeOf3
 v3:=Tryz.zeroValue3
 t4:=Tryz.underlying4
 a4:=Tryz.isAgg4
 z4:=Tryz.sizeOf4
 v4:=Tryz.zeroValue4
 t5:=Tryz.underlying5
 a5:=Tryz.isAgg5
 z5:=Tryz.sizeOf5
 v5:=Tryz.zeroValue5
 t9:=Tryz.underlying9
 a9:=Tryz.isAgg9
 z9:=Tryz.sizeOf9
 v9:=Tryz.zeroValue9
 t46:=Tryz.underlying58
 a46:=Tryz.isAgg58
 z46:=Tryz.sizeOf58
 v46:=Tryz.zeroValue58
 t53:=Tryz.underlying136
 a53:=Tryz.isAgg136
 z53:=Tryz.sizeOf136
 v53:=Tryz.zeroValue136 }
theorem len64_any (x:Nat) (hx:x < 2^64) (w:World):
    Calls Tryz.prog 131 #[.int .u64 (x:Int)] w fun e w'=>e=.returned (.int .i64 (Lib.bitLen x:Nat))∧w=w':=
 (Any.bits_Len64 len64_lays (x:Int) w (by omega) (by omega)).mono fun _ _ h=>⟨h.1,h.2.symm⟩
theorem aux_zero (f:Nat):Lib.bitLenAux f 0=0:=by cases f <;> simp [Lib.bitLenAux]
theorem aux_spec:∀(f x:Nat),x < 2^f→Lib.bitLenAux f x≤f∧x < 2^Lib.bitLenAux f x∧(x≠0→1≤Lib.bitLenAux f x∧2^(Lib.bitLenAux f x - 1)≤x)
 | 0,x,h=>by
   have:x=0:=by simpa using h
   subst this
   simp [Lib.bitLenAux]
 | f+1,x,h=>by
   by_cases h0:x=0
   · subst h0;simp [Lib.bitLenAux]
   · have hx:x / 2 < 2^f:=by rw [Nat.pow_succ] at h;omega
     obtain ⟨a,b,c⟩:=aux_spec f (x / 2) hx
     have e:Lib.bitLenAux (f+1) x=1+Lib.bitLenAux f (x / 2):=by simp [Lib.bitLenAux,h0]
     rw [e]
     by_cases h1:x / 2=0
     · rw [h1,aux_zero]
       have:x=1:=by omega
       subst this
       simp
     · obtain ⟨c1,c2⟩:=c h1
       generalize Lib.bitLenAux f (x / 2)=k at*
       refine ⟨by omega,by rw [Nat.add_comm,Nat.pow_succ];omega,fun _=>⟨by omega,?_⟩⟩
       rw [Nat.add_sub_cancel_left]
       have:2^k=2^(k - 1)*2:=by rw [←Nat.pow_succ];congr 1;omega
       omega
def wdN (x:Nat):Nat:=max 1 (Lib.bitLen x)
theorem widthOf_any (x:Nat) (hx:x < 2^64) (w:World):
    Calls Tryz.prog 87 #[.int .u64 (x:Int)] w fun e w'=>e=.returned (.int .i64 (wdN x:Nat))∧w=w':=by
 have HL:=Lib.hid (len64_any x hx w)
 go_enter Tryz.func87,Tryz.ntmps87
 go_wp2_with (go_at_call 131;refine HL.out.mono ?_;rintro e w' ⟨rfl,rfl⟩)
 go_ret
 exact ⟨ret_i64 (by unfold wdN;omega),rfl⟩
theorem wdN_spec {x:Nat} (hx:x < 2^64):1≤wdN x∧wdN x≤64∧x < 2^wdN x∧(wdN x≠1→2^(wdN x - 1)≤x):=by
 obtain ⟨a,b,c⟩:=aux_spec 64 x hx
 have e:Lib.bitLen x=Lib.bitLenAux 64 x:=rfl
 unfold wdN
 rw [e]
 have hz:x=0→Lib.bitLenAux 64 x=0:=by rintro rfl;exact aux_zero 64
 generalize Lib.bitLenAux 64 x=k at*
 by_cases hk:k=0
 · subst hk
   have:x=0:=by simpa using b
   subst this
   simp
 · have hm:max 1 k=k:=by omega
   rw [hm]
   refine ⟨by omega,a,b,fun _=>?_⟩
   by_cases h0:x=0
   · exact absurd (hz h0) hk
   · exact (c h0).2
end Go.Proofs.YtcidobpbepeakaaGreat

namespace Go.Proofs.YtcidobpbepeakaaGreat
open Go.RowKit
theorem l_aux_blen:∀(f x:Nat),x < 2^f→Lib.bitLenAux f x=Pl.blen x
 | 0,x,h=>by
   have:x=0:=by simpa using h
   rw [this,Pl.blen_zero];rfl
 | f+1,x,h=>by
   by_cases h0:x=0
   · subst h0;rw [Pl.blen_zero];simp [Lib.bitLenAux]
   · have e:Lib.bitLenAux (f+1) x=1+Lib.bitLenAux f (x / 2):=by simp [Lib.bitLenAux,h0]
     rw [Pl.blen_pos (by omega),←l_aux_blen f (x / 2) (by rw [Nat.pow_succ] at h;omega),e]
     omega
theorem lblen_any (x:Nat) (hx:x < 2^64) (w:World):
    Calls Tryz.prog 113 #[.int .u64 (x:Int)] w fun e w'=>e=.returned (.int .i64 (Pl.blen x:Nat))∧w=w':=by
 have h:=len64_any x hx w
 have e:Lib.bitLen x=Pl.blen x:=l_aux_blen 64 x hx
 rw [e] at h
 have HH:=Lib.hid h
 clear h e
 go_enter Tryz.func113,Tryz.ntmps113
 go_wp2_with fail
 refine HH.out.mono ?_
 rintro e w' ⟨rfl,rfl⟩
 go_wp2_with fail
 go_ret
 exact ⟨rfl,rfl⟩
end Go.Proofs.YtcidobpbepeakaaGreat
