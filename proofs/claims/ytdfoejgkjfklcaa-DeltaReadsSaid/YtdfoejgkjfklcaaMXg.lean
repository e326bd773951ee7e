import Derived.Test.YtdfoejgkjfklcaaMXf
/- Windows' numbers as pairs of whole numbers. -/
namespace Go.Proofs.Ytdfoejgkjfklcaa.Mt
def lo (b : UInt8) : Int := (b.toNat % 16 : Nat)
def hi (b : UInt8) : Int := (b.toNat / 16 : Nat)
theorem lo_le (b : UInt8) : 0 ≤ lo b ∧ lo b ≤ 15 := by unfold lo; omega
theorem hi_le (b : UInt8) : 0 ≤ hi b ∧ hi b ≤ 15 := by unfold hi; have := b.toNat_lt; omega
/- a pair turned by i, k times -/
def rx (k : Nat) (x y : Int) : Int := if k % 4 = 0 then x else if k % 4 = 1 then -y else if k % 4 = 2 then -x else y
def ry (k : Nat) (x y : Int) : Int := if k % 4 = 0 then y else if k % 4 = 1 then x else if k % 4 = 2 then -y else -x
theorem rx_le {k : Nat} {x y : Int} {c : Nat} (hx : x.natAbs ≤ c) (hy : y.natAbs ≤ c) : (rx k x y).natAbs ≤ c := by unfold rx; split <;> (try split) <;> (try split) <;> omega
theorem ry_le {k : Nat} {x y : Int} {c : Nat} (hx : x.natAbs ≤ c) (hy : y.natAbs ≤ c) : (ry k x y).natAbs ≤ c := by unfold ry; split <;> (try split) <;> (try split) <;> omega
/- the sums of a window's first bytes -/
def wx (f : Nat → UInt8) : Nat → Int
  | 0 => 0
  | n + 1 => wx f n + rx (15 - n) (lo (f n)) (hi (f n))
def wy (f : Nat → UInt8) : Nat → Int
  | 0 => 0
  | n + 1 => wy f n + ry (15 - n) (lo (f n)) (hi (f n))
theorem wx_le (f : Nat → UInt8) (n : Nat) : (wx f n).natAbs ≤ 15 * n ∧ (wy f n).natAbs ≤ 15 * n := by
  induction n with
  | zero => exact ⟨Nat.le_refl _, Nat.le_refl _⟩
  | succ n ih =>
    have h1 := lo_le (f n)
    have h2 := hi_le (f n)
    have h3 := rx_le (k := 15 - n) (x := lo (f n)) (y := hi (f n)) (c := 15) (by omega) (by omega)
    have h4 := ry_le (k := 15 - n) (x := lo (f n)) (y := hi (f n)) (c := 15) (by omega) (by omega)
    have e1 : wx f (n + 1) = wx f n + rx (15 - n) (lo (f n)) (hi (f n)) := rfl
    have e2 : wy f (n + 1) = wy f n + ry (15 - n) (lo (f n)) (hi (f n)) := rfl
    rw [e1, e2]
    omega
theorem wx_congr {f g : Nat → UInt8} {n : Nat} (h : ∀ i, i < n → f i = g i) : wx f n = wx g n ∧ wy f n = wy g n := by
  induction n with
  | zero => exact ⟨rfl, rfl⟩
  | succ n ih =>
    have h1 := ih fun i hi => h i (by omega)
    unfold wx wy
    rw [h1.1, h1.2, h n (by omega)]
    exact ⟨rfl, rfl⟩
/- one byte on -/
theorem wx_roll (f : Nat → UInt8) : wx (fun i => f (i + 1)) 16 = -wy f 16 - lo (f 0) + lo (f 16) ∧ wy (fun i => f (i + 1)) 16 = wx f 16 - hi (f 0) + hi (f 16) := by
  simp only [wx, wy, rx, ry, Nat.reduceSub, Nat.reduceMod, Nat.reduceAdd, Nat.reduceEqDiff, if_true, if_false]
  constructor
  · simp; omega
  · simp; omega
def swapF (f : Nat → UInt8) (i k : Nat) (j : Nat) : UInt8 := if j = i then f k else if j = k then f i else f j
theorem wx_four (f : Nat → UInt8) (i k : Nat) (hi' : i < 16) (hk : k < 16) (h : i % 4 = k % 4) : wx (swapF f i k) 16 = wx f 16 ∧ wy (swapF f i k) 16 = wy f 16 := by
  have key : ∀ a b, a ≤ 15 → b ≤ 15 → a % 4 = b % 4 → wx (swapF f a b) 16 = wx f 16 ∧ wy (swapF f a b) 16 = wy f 16 := by
    intro a b ha hb hab
    obtain ⟨c, r, rfl, hc, hr⟩ : ∃ c r, a = 4 * c + r ∧ c < 4 ∧ r < 4 := ⟨a / 4, a % 4, by omega, by omega, by omega⟩
    obtain ⟨d, rfl, hd⟩ : ∃ d, b = 4 * d + r ∧ d < 4 := ⟨b / 4, by omega, by omega⟩
    clear ha hb hab
    have e : ∀ j, swapF f (4 * c + r) (4 * d + r) j = if j % 4 = r then (if j / 4 = c then f (4 * d + r) else if j / 4 = d then f (4 * c + r) else f j) else f j := by
      intro j
      unfold swapF
      by_cases h1 : j % 4 = r
      · rw [if_pos h1]
        by_cases h2 : j / 4 = c
        · rw [if_pos h2, if_pos (by omega)]
        · rw [if_neg h2, if_neg (by omega)]
          by_cases h3 : j / 4 = d
          · rw [if_pos h3, if_pos (by omega)]
          · rw [if_neg h3, if_neg (by omega)]
      · rw [if_neg h1, if_neg (by omega), if_neg (by omega)]
    have hcs : c = 0 ∨ c = 1 ∨ c = 2 ∨ c = 3 := by omega
    have hds : d = 0 ∨ d = 1 ∨ d = 2 ∨ d = 3 := by omega
    have hrs : r = 0 ∨ r = 1 ∨ r = 2 ∨ r = 3 := by omega
    rcases hrs with rfl | rfl | rfl | rfl <;> rcases hcs with rfl | rfl | rfl | rfl <;> rcases hds with rfl | rfl | rfl | rfl <;>
      (simp only [wx, wy, e, rx, ry, Nat.reduceSub, Nat.reduceMod, Nat.reduceAdd, Nat.reduceMul, Nat.reduceDiv, Nat.reduceEqDiff, if_true, if_false]; constructor <;> simp <;> omega)
  exact key i k (by omega) (by omega) h
end Go.Proofs.Ytdfoejgkjfklcaa.Mt
