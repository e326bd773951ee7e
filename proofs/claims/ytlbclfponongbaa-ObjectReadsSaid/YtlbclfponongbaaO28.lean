import Derived.Test.YtlbclfponongbaaO27
/- A commit's object. -/
namespace Go.Proofs.Ytlbclfponongbaa
open Go.RowKit Classical
theorem clamp_small (n : Nat) (h : n ≤ 1099511627775) : clamp (n : Int) = n := by unfold clamp; omega
theorem Row.keepB {K : Nat → Prop} {W W' : World} {v : Value} {m : Nat} {c : Nat → Value} {n : Nat} (h : Row W v m c n) (hk : Keep K W W') (hK : ∀ g, g < W.heap.size → K g) : Row W' v m c n := by
  rcases h with h | ⟨b, k, cap, h1, h2, h3, h4, h5⟩
  · exact Or.inl h
  · exact Or.inr ⟨b, k, cap, h1, h2, h3, Nat.lt_of_lt_of_le h4 hk.size, fun i hi => hk.cell (hK _ h4) (h5 i hi)⟩
theorem cv_parts {w : World} {z : Nat} {t : Nat → UInt8} {v : Value} {s : List UInt8} (h : Blk w z 67 34 (cv t v s)) : w.cell? ⟨z, 32, none⟩ = some v ∧ w.cell? ⟨z, 33, none⟩ = some (.string (bs s)) ∧ At w z 0 32 (bv t) := by
  refine ⟨h.cell 32 (by omega), h.cell 33 (by omega), h.at0.part 0 32 _ (by omega) fun j hj => ?_⟩
  unfold cv
  rw [if_pos (by omega), Nat.zero_add]
  rfl
theorem comB_len (c : Com) (h : comOk c) : (comB c).length ≤ 400 := by
  unfold comB
  have h1 := dg_le6 (show c.n ≤ 1099511627775 by have := h.1; omega)
  have h2 := dg_le6 (clamp_le (c.text.length : Int))
  have := h.1
  have := h.2.1
  rw [List.length_append, List.length_append, List.length_append, idL_length, tx_len, pb_len]
  omega
end Go.Proofs.Ytlbclfponongbaa
