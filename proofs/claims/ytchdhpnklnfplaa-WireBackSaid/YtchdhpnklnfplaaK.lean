import Derived.Test.YtchdhpnklnfplaaRows
import Derived.Test.YtchdhpnklnfplaaIt
import Derived.ProofKit
/- What the rows' proofs share. -/
namespace Go.Proofs.Ytchdhpnklnfplaa
open Go.ChangeShapes Go.WideShapes Go.ChangeAt Go.RowKit
theorem Try.own : ownKnob Try.prog.godebug = none := by kernel_rfl
theorem Try.laidOut : laidOutB Try.prog = true := by kernel_rfl
theorem as_u16 {n : Int} (h : (Lit.int .u16 n).wf = true) : ∃ c : Nat, n = c ∧ c < 65536 := by
  simp [Lit.wf, IntKind.min, IntKind.max, IntKind.signed, IntKind.bits] at h
  exact ⟨n.toNat, by omega, by omega⟩
end Go.Proofs.Ytchdhpnklnfplaa
