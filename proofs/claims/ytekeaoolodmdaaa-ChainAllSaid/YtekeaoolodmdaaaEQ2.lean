import Derived.Test.YtekeaoolodmdaaaEQ1
/- The reference's reader: a number. -/
namespace Go.Proofs.Ytekeaoolodmdaaa
open Go.RowKit Classical
/- what the loop knows: the rest is read as the whole -/
def Qn (most : Int) (l : List UInt8) (p i acc : Nat) : Prop := rd most (l.drop p) 0 0 = rd most (l.drop (p + i)) i acc ∧ acc < 128 ^ i
theorem Qn.start (most : Int) (l : List UInt8) (p : Nat) : Qn most l p 0 0 := ⟨rfl, by decide⟩
theorem pow_le6 {i : Nat} (h : i ≤ 6) : 128 ^ i ≤ 4398046511104 := Nat.le_trans (Nat.pow_le_pow_right (by decide) h) (by decide)
theorem drop_cons2 {l : List UInt8} {q : Nat} (h : q < l.length) : l.drop q = l[q] :: l.drop (q + 1) := List.drop_eq_getElem_cons h
theorem Qn.next {most : Int} {l : List UInt8} {p i acc : Nat} (h : Qn most l p i acc) (hi : i < 6) (hq : p + i < l.length) (h128 : 128 ≤ l[p + i].toNat) : Qn most l p (i + 1) (acc + l[p + i].toNat % 128 * 128 ^ i) := by
  refine ⟨?_, ?_⟩
  · rw [h.1, drop_cons2 hq, rd, if_neg (by omega), if_pos h128, Nat.add_assoc]
  · have h2 := h.2
    have h3 : l[p + i].toNat % 128 * 128 ^ i ≤ 127 * 128 ^ i := Nat.mul_le_mul_right _ (by omega)
    rw [Nat.pow_succ]
    omega
theorem Qn.short {most : Int} {l : List UInt8} {p i acc : Nat} (h : Qn most l p i acc) (hi : i < 6) (hq : l.length ≤ p + i) : rd most (l.drop p) 0 0 = (0, 0, 3) := by
  rw [h.1, List.drop_eq_nil_of_le hq, rd, if_neg (by omega)]
theorem Qn.six {most : Int} {l : List UInt8} {p acc : Nat} (h : Qn most l p 6 acc) : rd most (l.drop p) 0 0 = (0, 0, 4) := by
  rw [h.1]
  cases l.drop (p + 6) <;> rw [rd, if_pos rfl]
theorem Qn.zero {most : Int} {l : List UInt8} {p i acc : Nat} (h : Qn most l p i acc) (hi : i < 6) (hq : p + i < l.length) (h0 : l[p + i].toNat = 0) (hi0 : 0 < i) : rd most (l.drop p) 0 0 = (0, 0, 2) := by
  rw [h.1, drop_cons2 hq, rd, if_neg (by omega), if_neg (by omega), if_pos ⟨h0, hi0⟩]
theorem Qn.great {most : Int} {l : List UInt8} {p i acc : Nat} (h : Qn most l p i acc) (hi : i < 6) (hq : p + i < l.length) (h128 : ¬ 128 ≤ l[p + i].toNat) (h0 : ¬ (l[p + i].toNat = 0 ∧ 0 < i)) (hb : 1099511627775 < acc + l[p + i].toNat % 128 * 128 ^ i ∨ most < ((acc + l[p + i].toNat % 128 * 128 ^ i : Nat) : Int)) : rd most (l.drop p) 0 0 = (0, 0, 4) := by
  rw [h.1, drop_cons2 hq, rd, if_neg (by omega), if_neg h128, if_neg h0, if_pos hb]
theorem Qn.good {most : Int} {l : List UInt8} {p i acc : Nat} (h : Qn most l p i acc) (hi : i < 6) (hq : p + i < l.length) (h128 : ¬ 128 ≤ l[p + i].toNat) (h0 : ¬ (l[p + i].toNat = 0 ∧ 0 < i)) (hb : ¬ (1099511627775 < acc + l[p + i].toNat % 128 * 128 ^ i ∨ most < ((acc + l[p + i].toNat % 128 * 128 ^ i : Nat) : Int))) : rd most (l.drop p) 0 0 = (acc + l[p + i].toNat % 128 * 128 ^ i, i + 1, 0) := by
  rw [h.1, drop_cons2 hq, rd, if_neg (by omega), if_neg h128, if_neg h0, if_neg hb]
end Go.Proofs.Ytekeaoolodmdaaa
