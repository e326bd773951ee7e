import Derived.Test.YtailacdlnlanbaaRows
import Derived.ProofKit
/- What the rows share. -/
namespace Go.Proofs.Ytailacdlnlanbaa
theorem Try.own : ownKnob Try.prog.godebug = none := by kernel_rfl
theorem as_byte {n : Int} (h : (Lit.int .u8 n).wf = true) : ∃ b : UInt8, n = (b.toNat : Int) := by
  simp [Lit.wf, IntKind.min, IntKind.max, IntKind.signed, IntKind.bits] at h
  refine ⟨UInt8.ofNat n.toNat, ?_⟩
  rw [UInt8.toNat_ofNat']
  omega
end Go.Proofs.Ytailacdlnlanbaa
