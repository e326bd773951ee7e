import Derived.Test.YtdfoejgkjfklcaaRows
import Derived.ProofKit
/- What the rows share. -/
namespace Go.Proofs.Ytdfoejgkjfklcaa
theorem Try.own : ownKnob Try.prog.godebug = none := by kernel_rfl
theorem as_i64 {n : Int} (h : (Lit.int .i64 n).wf = true) : -9223372036854775808 ≤ n ∧ n ≤ 9223372036854775807 := by
  simp [Lit.wf, IntKind.min, IntKind.max, IntKind.signed, IntKind.bits] at h
  omega
end Go.Proofs.Ytdfoejgkjfklcaa
