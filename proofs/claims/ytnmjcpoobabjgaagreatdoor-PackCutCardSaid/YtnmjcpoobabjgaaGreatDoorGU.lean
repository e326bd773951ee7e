import Derived.Test.YtnmjcpoobabjgaaGreatDoorHK
set_option linter.unusedVariables false
set_option linter.unusedSimpArgs false
/- A number of 16 bits as an argument. -/
namespace Go.Proofs.YtnmjcpoobabjgaaGreatDoor
theorem as_u16 {n : Int} (h : (Lit.int .u16 n).wf = true) : ∃ c : Nat, n = (c : Int) ∧ c < 65536 := by
  simp [Lit.wf, IntKind.min, IntKind.max, IntKind.signed, IntKind.bits] at h
  exact ⟨n.toNat, by omega, by omega⟩
end Go.Proofs.YtnmjcpoobabjgaaGreatDoor
