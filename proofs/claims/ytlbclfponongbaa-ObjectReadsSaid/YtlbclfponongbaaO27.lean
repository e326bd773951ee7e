import Derived.Test.YtlbclfponongbaaO26
/- The same lists of ids, of entries? Is a list great? -/
namespace Go.Proofs.Ytlbclfponongbaa
open Go.RowKit Classical
/- more than 60 entries, or a name of more than 100 bytes -/
def greatE (es : Nat → Ent) (n : Nat) : Prop := 60 < n ∨ ∃ i, i < n ∧ 100 < (es i).name.length
end Go.Proofs.Ytlbclfponongbaa
