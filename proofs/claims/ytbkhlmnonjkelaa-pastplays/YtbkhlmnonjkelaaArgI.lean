/-
  What comes in, opened: words.
-/
import Derived.Test.YtbkhlmnonjkelaaScr
import Derived.ChangeSlices
import Derived.ChangeMaps5
import Derived.Carry
import Derived.OpenShut
namespace Go.Proofs.Ytbkhlmnonjkelaa
open Go.ChangeShapes Go.WideShapes Go.RowKit
set_option maxRecDepth 100000

theorem laid : laidOutB Try.prog = true := by kernel_rfl
theorem u64_of {a : Int} (h : (Lit.int .u64 a).wf = true) : U64 a := by
  have m0 : IntKind.u64.min = 0 := rfl
  have m1 : IntKind.u64.max = 18446744073709551615 := rfl
  simp only [Lit.wf, m0, m1, Bool.and_eq_true, decide_eq_true_eq] at h
  unfold U64
  omega
end Go.Proofs.Ytbkhlmnonjkelaa
