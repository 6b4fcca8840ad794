/- The document's least number of a range; what layer 14's laws ask of package rmq, as one word (RmqI), over any 'At' (a table lies at a pointer); the laws' opening. -/
import Derived.Test.YtddfaidfnmpnlaaRmqMath
import Derived.Test.YtddfaidfnmpnlaaSufI
import Derived.Test.YtddfaidfnmpnlaaListR
import Derived.Deep.QuietTactic
import Derived.BigQuiet
namespace Go.Proofs.Ytddfaidfnmpnlaa
open Go.RowKit

/-- what package rmq answers. At B w v n V: a table of the first n numbers of V lies at v, all of it in blocks from B on. -/
structure RmqI (At : Nat → World → Value → Nat → (Nat → Int) → Prop) : Prop where
  keep_ : ∀ {B : Nat} {w w' : World} {v : Value} {n : Nat} {V : Nat → Int}, At B w v n V → w.heap.size ≤ w'.heap.size → (∀ k, B ≤ k → k < w.heap.size → w'.heap[k]? = w.heap[k]?) → At B w' v n V
  ptr : ∀ {B : Nat} {w : World} {v : Value} {n : Nat} {V : Nat → Int}, At B w v n V → ∃ a, v = .pointer (some a)
  new : ∀ (A : Option Addr) (n c : Nat) (V : Nat → Int) (w : World), n ≤ 4194303 → ItsR w A n c V → Calls Try.prog 12 #[.slice A n c] w fun e w' => (∃ v, e = .returned (.tuple #[v, .int .i64 0]) ∧ At w.heap.size w' v n V) ∧ Below w.heap.size w w'
  len_ : ∀ (B : Nat) (v : Value) (n : Nat) (V : Nat → Int) (w : World), At B w v n V → Calls Try.prog 19 #[v] w fun e w' => e = .returned (.int .i64 (n : Int)) ∧ Below w.heap.size w w'
  least : ∀ (B : Nat) (v : Value) (n : Nat) (V : Nat → Int) (a b : Int) (w : World), (Lit.int .i64 a).wf = true → (Lit.int .i64 b).wf = true → At B w v n V → Calls Try.prog 14 #[v, .int .i64 a, .int .i64 b] w fun e w' => e = .returned (.int .i64 (lstR V a b n)) ∧ Below w.heap.size w w'
section
variable {At : Nat → World → Value → Nat → (Nat → Int) → Prop}
theorem RmqI.keep (I : RmqI At) {B : Nat} {w w' : World} {v : Value} {n : Nat} {V : Nat → Int} (h : At B w v n V) (hb : Below w.heap.size w w') : At B w' v n V := I.keep_ h hb.size fun k _ hk => hb.block k hk
/-- the chapter's example. -/
def rxV : Nat → Int := litI [3, 1, 2, 1]
end
end Go.Proofs.Ytddfaidfnmpnlaa
