import Derived.Test.YtlbclfponongbaaO29
/- The same commits? One commit of one body. -/
namespace Go.Proofs.Ytlbclfponongbaa
open Go.RowKit Classical
theorem ne_of_bs (a b : List UInt8) : (a = b → ((bs a).toList == (bs b).toList) = true) ∧ (¬ a = b → ((bs a).toList == (bs b).toList) = false) := ⟨fun h => by rw [bs_eq]; exact decide_eq_true h, fun h => by rw [bs_eq]; exact decide_eq_false h⟩
def sameC (c d : Com) : Prop := same32 c.tree d.tree ∧ c.text = d.text ∧ c.n = d.n ∧ ∀ i, i < c.n → same32 (c.par i) (d.par i)
end Go.Proofs.Ytlbclfponongbaa
