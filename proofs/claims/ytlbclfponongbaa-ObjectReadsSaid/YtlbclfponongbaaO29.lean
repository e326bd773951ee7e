import Derived.Test.YtlbclfponongbaaO28
/- What a tree and a commit say. -/
namespace Go.Proofs.Ytlbclfponongbaa
open Go.RowKit Classical
def TSaid (e : Ending) (w : World) (l : List UInt8) : Prop := ∃ v es n, e = .returned (.tuple #[v, .int .i64 0]) ∧ Row w v 34 (ec es) n ∧ IsTree l es n
def CSaid (e : Ending) (w : World) (l : List UInt8) : Prop := ∃ c pv, e = .returned (.tuple #[.agg (arr 34 (cv c.tree pv c.text)), .int .i64 0]) ∧ Row w pv 32 (pc c.par) c.n ∧ IsCom l c
end Go.Proofs.Ytlbclfponongbaa
