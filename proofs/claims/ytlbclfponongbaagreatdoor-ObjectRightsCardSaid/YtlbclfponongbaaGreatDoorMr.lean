import Derived.Test.YtlbclfponongbaaGreatDoorV6m
/- What is read of what was written: plain facts on lists. -/
namespace Go.Proofs.YtlbclfponongbaaGreatDoor
theorem drop_add (l : List UInt8) (p q : Nat) : l.drop (p + q) = (l.drop p).drop q := by rw [List.drop_drop]
theorem drop_len {l X : List UInt8} {p : Nat} (h : l.drop p = X) (hX : 0 < X.length) : l.length = p + X.length := by
  have := congrArg List.length h
  rw [List.length_drop] at this
  omega
theorem drop_len2 {l X : List UInt8} {p : Nat} (h : l.drop p = X) (hp : p ≤ l.length) : l.length = p + X.length := by
  have := congrArg List.length h
  rw [List.length_drop] at this
  omega
theorem num_read {most : Int} {l R : List UInt8} {p n : Nat} (h : l.drop p = dg n ++ R) (hn : n ≤ 1099511627775) (hm : (n : Int) ≤ most) : rNum most l p 0 = (n, p + (dg n).length, 0) := by
  unfold rNum
  rw [if_neg (by simp), h, rd_dg most R n 0 0 (by omega) (by omega) (by simpa using hm) (Or.inr rfl)]
  simp
theorem num_short {most : Int} {l : List UInt8} {p n j : Nat} (h : l.drop p = (dg n).take j) (hj : j < (dg n).length) (hn : n ≤ 1099511627775) : rNum most l p 0 = (0, p, 3) := by
  unfold rNum
  rw [if_neg (by simp), h, rd_cut most n 0 0 j (by omega) (by omega) hj]
  simp
theorem raw_read {l s R : List UInt8} {p : Nat} {n : Int} (h : l.drop p = s ++ R) (hp : p ≤ l.length) (hn : n = s.length) : rRaw n l p 0 = (s, p + s.length, 0) := by
  subst hn
  have hl := drop_len2 h hp
  rw [List.length_append] at hl
  unfold rRaw
  rw [if_neg (by simp), if_neg (by omega), if_neg (by omega), h]
  simp
theorem raw_short {l : List UInt8} {p : Nat} {n : Int} (hn : 0 ≤ n) (h : (l.length : Int) - p < n) : rRaw n l p 0 = ([], p, 3) := by
  unfold rRaw
  rw [if_neg (by simp), if_neg (by omega), if_pos h]
theorem tx_len (s : List UInt8) : (tx s).length = (dg (clamp s.length)).length + s.length := by unfold tx; rw [List.length_append]
theorem text_read {most : Int} {l s R : List UInt8} {p : Nat} (h : l.drop p = tx s ++ R) (hp : p ≤ l.length) (hs : s.length ≤ 1099511627775) (hm : (s.length : Int) ≤ most) : rText most l p 0 = (s, p + (tx s).length, 0) := by
  have hc : clamp (s.length : Int) = s.length := by rw [clamp_of (by omega) (by omega)]; simp
  have hl := drop_len2 h hp
  rw [tx_len]
  rw [List.length_append, tx_len] at hl
  unfold tx at h
  rw [hc] at h hl ⊢
  rw [List.append_assoc] at h
  have h1 := num_read (most := most) h hs hm
  have h2 : rRaw (s.length : Int) l (p + (dg s.length).length) 0 = (s, p + (dg s.length).length + s.length, 0) := raw_read (R := R) (by rw [drop_add, h]; simp) (by omega) rfl
  unfold rText
  rw [if_neg (by simp), h1]
  dsimp only
  rw [h2, if_neg (by simp), Nat.add_assoc]
theorem text_short {most : Int} {l s : List UInt8} {p j : Nat} (h : l.drop p = (tx s).take j) (hp : p ≤ l.length) (hj : j < (tx s).length) (hs : s.length ≤ 1099511627775) (hm : (s.length : Int) ≤ most) : rText most l p 0 = ([], p, 3) := by
  have hc : clamp (s.length : Int) = s.length := by rw [clamp_of (by omega) (by omega)]; simp
  have hl := drop_len2 h hp
  rw [tx_len] at hj
  unfold tx at h hl
  rw [hc] at h hj hl
  rw [List.length_take, List.length_append] at hl
  unfold rText
  rw [if_neg (by simp)]
  by_cases c : j < (dg s.length).length
  · rw [List.take_append_of_le_length (by omega)] at h
    rw [num_short (most := most) h c hs]
    dsimp only
    have e : rRaw ((0 : Nat) : Int) l p 3 = ([], p, 3) := by unfold rRaw; rw [if_pos (by simp)]
    rw [e, if_pos (by simp)]
  · rw [List.take_append, List.take_of_length_le (by omega)] at h
    rw [num_read (most := most) h hs hm]
    dsimp only
    rw [raw_short (by omega) (by omega), if_pos (by simp)]
theorem id_get (f : Nat → UInt8) : ∀ i, i < 32 → idOf (idL f) i = f i := by
  intro i hi
  unfold idOf idL
  rw [List.getD_eq_getElem?_getD, List.getElem?_map, List.getElem?_range hi]
  rfl
end Go.Proofs.YtlbclfponongbaaGreatDoor
