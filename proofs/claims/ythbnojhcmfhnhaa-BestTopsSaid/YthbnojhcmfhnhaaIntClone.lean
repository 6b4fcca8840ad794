/- slices.Clone of ints that came in: a row of the call's own. -/
import Derived.Test.YthbnojhcmfhnhaaSufI
import Derived.Test.YthbnojhcmfhnhaaIntApp
import Derived.Deep.DeepAppendRoom
namespace Go.Proofs.Ythbnojhcmfhnhaa
open Go.RowKit

set_option maxRecDepth 100000 in
theorem wvClone_any (A : Option Addr) (n c : Nat) (V : Nat → Int) (w : World) (hn : n ≤ 4194304) (ho : ItsR w A n c V) :
    Calls Try.prog 19 #[.slice A n c] w fun e w' => ∃ v, e = .returned v ∧ w'.ownsRow w.heap.size 3 1 v n (icells V n) ∧ Below w.heap.size w w' := by
  have HO := Lib.hid ho
  rcases A with _ | ad
  · obtain ⟨rfl, rfl⟩ := ho.1 rfl
    have hnil := fun W => Lib.run_eql_slice_nil (P := Try.prog) W 22 3 none 0 0 0 0 Try.underlying22
    clear ho
    go_enter Try.func19, Try.ntmps19
    go_wp2_with fail
    go_ret
    exact ⟨_, rfl, World.ownsRow_nil _ _ _ _, Below.refl _ _⟩
  · have hnil := fun W => Lib.run_eql_slice_nil (P := Try.prog) W 22 3 (some ad) n c 0 0 Try.underlying22
    clear ho
    go_enter Try.func19, Try.ntmps19
    go_wp2_with (at_builtin; refine step_append_list_far rfl (.tmp 5) (.tmp 6) rfl rfl rfl (by omega) HO.out.1 HO.out.2.2.2 ?_; intro g cg w1 hown1 hb1)
    go_ret
    exact ⟨_, rfl, hown1.out, hb1⟩
end Go.Proofs.Ythbnojhcmfhnhaa
