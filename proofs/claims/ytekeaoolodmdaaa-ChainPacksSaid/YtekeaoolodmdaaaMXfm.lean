import Derived.WalkKit
import Derived.WalkLawsBesides
/- Whole numbers as floats of 64 bits: sums, differences, products, comparisons and conversions are exact below 2 to the 53rd. -/
namespace Go.Proofs.Ytekeaoolodmdaaa.Mt
open Ieee
/- a datum that stands for a whole number; of 0 the sign is left open -/
def FiD (d : Datum) (n : Int) : Prop := ∃ (s : Bool) (k : Nat), d = .number s (n.natAbs * 2 ^ k) (-(k : Int)) ∧ (n ≠ 0 → s = decide (n < 0))
def Fi (b : Nat) (n : Int) : Prop := FiD (double.read b) n
theorem signed_fi {s : Bool} {n : Int} (k u : Nat) (h : n ≠ 0 → s = decide (n < 0)) : signed s (n.natAbs * 2 ^ k) u = n * 2 ^ (k + u) := by
  unfold signed
  rw [Nat.shiftLeft_eq, Nat.mul_assoc, ← Nat.pow_add]
  by_cases h0 : n = 0
  · subst h0
    simp
  · rw [h h0]
    by_cases hn : n < 0
    · rw [if_pos (by simpa using hn), Int.natCast_mul, Int.natCast_pow, Int.ofNat_natAbs_of_nonpos (by omega), Int.neg_mul, Int.neg_neg]; rfl
    · rw [if_neg (by simpa using hn), Int.natCast_mul, Int.natCast_pow, Int.natAbs_of_nonneg (by omega)]; rfl
theorem cut_exact (way : Toward) (sg : Bool) (c drop : Nat) (hc : 0 < c) : way.cut sg (c * 2 ^ drop) drop = c := by
  have h2 : 0 < 2 ^ drop := Nat.two_pow_pos _
  have hl : drop ≤ (c * 2 ^ drop).log2 := by
    rw [Nat.le_log2 (by exact Nat.ne_of_gt (Nat.mul_pos hc h2))]
    exact Nat.le_mul_of_pos_left _ hc
  unfold Toward.cut
  rw [Nat.min_eq_left (by omega), Nat.shiftLeft_eq, Nat.one_mul]
  simp only [Nat.mul_div_cancel _ h2, Nat.mul_mod_left]
  cases way <;> simp
theorem read_word (sg : Bool) (r : Nat) (h : r < 9223372036854775808) : (double.word sg r) / double.signWeight % 2 = sg.toNat ∧ (double.word sg r) % double.signWeight = r := by
  have e : double.signWeight = 9223372036854775808 := by decide
  unfold Format.word
  rw [e]
  cases sg
  · simp only [Bool.false_eq_true, if_false, Bool.toNat_false]; omega
  · simp only [if_true, Bool.toNat_true]; omega
theorem log2_scaled (m M : Nat) (hm : 0 < m) : (m * 2 ^ M).log2 = m.log2 + M := by
  have h2 : 0 < 2 ^ M := Nat.two_pow_pos _
  have h1 := (Nat.log2_eq_iff (n := m) (k := m.log2) (by omega)).1 rfl
  refine (Nat.log2_eq_iff (Nat.ne_of_gt (Nat.mul_pos hm h2))).2 ⟨?_, ?_⟩
  · rw [Nat.pow_add]; exact Nat.mul_le_mul_right _ h1.1
  · rw [show m.log2 + M + 1 = m.log2 + 1 + M by omega, Nat.pow_add]; exact Nat.mul_lt_mul_of_pos_right h1.2 h2
/- a number that the format has is read as it was written -/
theorem read_nearest (sg : Bool) (m M : Nat) (hm : 0 < m) (hb : m < 9007199254740992) : double.read (double.nearest sg (m * 2 ^ M) (-(M : Int))) = .number sg (m * 2 ^ (52 - m.log2)) (-((52 - m.log2 : Nat) : Int)) := by
  have h2 : 0 < 2 ^ M := Nat.two_pow_pos _
  have hl := (Nat.log2_eq_iff (n := m) (k := m.log2) (by omega)).1 rfl
  have hL : m.log2 ≤ 52 := by
    have : m.log2 < 53 := (Nat.log2_lt (by omega)).2 hb
    omega
  have hlog := log2_scaled m M hm
  generalize m.log2 = L at *
  have e1 : double.fractionBits = 52 := rfl
  have e2 : double.leastPlace = -1074 := by decide
  have e3 : double.binade = 4503599627370496 := by decide
  have e4 : double.infRung = 9218868437227405312 := by decide
  have c1 : 4503599627370496 ≤ m * 2 ^ (52 - L) := by
    have := Nat.mul_le_mul_right (2 ^ (52 - L)) hl.1
    rw [← Nat.pow_add, show L + (52 - L) = 52 by omega] at this
    exact this
  have c2 : m * 2 ^ (52 - L) < 9007199254740992 := by
    have := Nat.mul_lt_mul_of_pos_right hl.2 (Nat.two_pow_pos (52 - L))
    rw [← Nat.pow_add, show L + 1 + (52 - L) = 53 by omega] at this
    exact this
  have hnear : double.nearest sg (m * 2 ^ M) (-(M : Int)) = double.word sg ((L + 1022) * 4503599627370496 + m * 2 ^ (52 - L)) := by
    unfold Format.nearest
    rw [if_neg (Nat.ne_of_gt (Nat.mul_pos hm h2)), hlog, e1, e2, e3, e4]
    have hlast : max (-(M : Int) + ((L + M : Nat) : Int) - ((52 : Nat) : Int)) (-1074) = (L : Int) - 52 := by omega
    dsimp only
    rw [hlast]
    have ha : (m * 2 ^ M) <<< (-(M : Int) - ((L : Int) - 52)).toNat = m * 2 ^ (52 - L) * 2 ^ ((L : Int) - 52 - -(M : Int)).toNat := by
      rw [Nat.shiftLeft_eq, Nat.mul_assoc, Nat.mul_assoc, ← Nat.pow_add, ← Nat.pow_add]
      congr 2
      omega
    rw [ha, cut_exact _ _ _ _ (by omega), show ((L : Int) - 52 - -1074).toNat = L + 1022 by omega, Nat.min_eq_left (by omega)]
  rw [hnear]
  generalize m * 2 ^ (52 - L) = c at *
  obtain ⟨w1, w2⟩ := read_word sg ((L + 1022) * 4503599627370496 + c) (by omega)
  unfold Format.read
  rw [w1, w2, e2, e3, e4]
  dsimp only
  rw [if_neg (by omega), if_pos (by omega), show (L + 1022) * 4503599627370496 + c = (L + 1023) * 4503599627370496 + (c - 4503599627370496) by omega]
  rw [show ((L + 1023) * 4503599627370496 + (c - 4503599627370496)) % 4503599627370496 = c - 4503599627370496 by omega,
    show ((L + 1023) * 4503599627370496 + (c - 4503599627370496)) / 4503599627370496 = L + 1023 by omega,
    show 4503599627370496 + (c - 4503599627370496) = c by omega]
  have e5 : (-1074 : Int) + ((L + 1023 - 1 : Nat) : Int) = -((52 - L : Nat) : Int) := by omega
  rw [e5]
  cases sg <;> rfl
theorem read_zero (sg : Bool) (p : Int) : double.read (double.nearest sg 0 p) = .number sg 0 (-1074) := by
  have : double.nearest sg 0 p = double.word sg 0 := by unfold Format.nearest; rw [if_pos rfl]
  rw [this]
  cases sg <;> decide +kernel
/- what is written of a whole number stands for it -/
theorem write_fi {sg : Bool} {c : Int} (M : Nat) (hs : c ≠ 0 → sg = decide (c < 0)) (hc : c.natAbs < 9007199254740992) : Fi (double.write (.number sg (c.natAbs * 2 ^ M) (-(M : Int)))) c := by
  unfold Fi Format.write
  by_cases h0 : c = 0
  · subst h0
    obtain ⟨k, hk⟩ : ∃ k, k = 1074 := ⟨_, rfl⟩
    refine ⟨sg, k, ?_, fun h => absurd rfl h⟩
    dsimp only
    rw [Int.natAbs_zero, Nat.zero_mul, Nat.zero_mul, read_zero, hk]
    rfl
  · exact ⟨sg, _, read_nearest sg c.natAbs M (by omega) hc, hs⟩
theorem FiD.opposite {d : Datum} {n : Int} (h : FiD d n) : FiD d.opposite (-n) := by
  obtain ⟨s, k, rfl, hs⟩ := h
  refine ⟨!s, k, by rw [Int.natAbs_neg]; rfl, fun hn => ?_⟩
  have h0 : n ≠ 0 := by omega
  rw [hs h0]
  by_cases c : n < 0
  · rw [decide_eq_true c, decide_eq_false (by omega)]; rfl
  · rw [decide_eq_false c, decide_eq_true (by omega)]; rfl
theorem pow_pos_int (M : Nat) : (0 : Int) < 2 ^ M := Int.pow_pos (by decide)
theorem sum_fi {x y : Datum} {a b : Int} (hx : FiD x a) (hy : FiD y b) (hb : (a + b).natAbs < 9007199254740992) : ∃ z, (x.sum y).map double.write = some z ∧ Fi z (a + b) := by
  obtain ⟨s, k, rfl, hs⟩ := hx
  obtain ⟨t, l, rfl, ht⟩ := hy
  obtain ⟨M, hM⟩ : ∃ M, M = max k l := ⟨_, rfl⟩
  have hbase : min (-(k : Int)) (-(l : Int)) = -(M : Int) := by omega
  unfold Datum.sum
  dsimp only
  rw [hbase, signed_fi k _ hs, signed_fi l _ ht, show k + (-(k : Int) - -(M : Int)).toNat = M by omega, show l + (-(l : Int) - -(M : Int)).toNat = M by omega, ← Int.add_mul]
  have hp := pow_pos_int M
  refine ⟨_, rfl, ?_⟩
  rw [Int.natAbs_mul, show ((2 : Int) ^ M).natAbs = 2 ^ M by rw [Int.natAbs_pow]; rfl]
  refine write_fi M (fun h0 => ?_) hb
  rw [if_neg (Int.mul_ne_zero h0 (by omega))]
  by_cases c : a + b < 0
  · rw [decide_eq_true c, decide_eq_true (Int.mul_neg_of_neg_of_pos c hp)]
  · rw [decide_eq_false c, decide_eq_false (by have := Int.mul_nonneg (show 0 ≤ a + b by omega) (Int.le_of_lt hp); omega)]
theorem add_fi {x y : Nat} {a b : Int} (hx : Fi x a) (hy : Fi y b) (hb : (a + b).natAbs < 9007199254740992) : ∃ z, double.add x y = some z ∧ Fi z (a + b) := sum_fi hx hy hb
theorem sub_fi {x y : Nat} {a b : Int} (hx : Fi x a) (hy : Fi y b) (hb : (a - b).natAbs < 9007199254740992) : ∃ z, double.sub x y = some z ∧ Fi z (a - b) := by
  have := sum_fi hx (FiD.opposite hy) (by rw [← Int.sub_eq_add_neg]; exact hb)
  rw [← Int.sub_eq_add_neg] at this
  exact this
theorem mul_fi {x y : Nat} {a b : Int} (hx : Fi x a) (hy : Fi y b) (hb : (a * b).natAbs < 9007199254740992) : ∃ z, double.mul x y = some z ∧ Fi z (a * b) := by
  obtain ⟨s, k, hx, hs⟩ := hx
  obtain ⟨t, l, hy, ht⟩ := hy
  unfold Format.mul
  rw [hx, hy]
  refine ⟨_, rfl, ?_⟩
  rw [show a.natAbs * 2 ^ k * (b.natAbs * 2 ^ l) = (a * b).natAbs * 2 ^ (k + l) by
    rw [Int.natAbs_mul, Nat.pow_add, Nat.mul_mul_mul_comm], show (-(k : Int) + -(l : Int)) = -((k + l : Nat) : Int) by omega]
  refine write_fi (k + l) (fun h0 => ?_) hb
  have ha : a ≠ 0 := fun e => h0 (by rw [e, Int.zero_mul])
  have hb' : b ≠ 0 := fun e => h0 (by rw [e, Int.mul_zero])
  rw [hs ha, ht hb']
  by_cases ca : a < 0 <;> by_cases cb : b < 0
  · rw [decide_eq_true ca, decide_eq_true cb, decide_eq_false (by have := Int.mul_pos_of_neg_of_neg ca cb; omega)]; rfl
  · rw [decide_eq_true ca, decide_eq_false cb, decide_eq_true (Int.mul_neg_of_neg_of_pos ca (by omega))]; rfl
  · rw [decide_eq_false ca, decide_eq_true cb, decide_eq_true (Int.mul_neg_of_pos_of_neg (by omega) cb)]; rfl
  · rw [decide_eq_false ca, decide_eq_false cb, decide_eq_false (by have := Int.mul_pos (show 0 < a by omega) (show 0 < b by omega); omega)]; rfl
theorem cmp_scaled (a b : Int) (M : Nat) : compare (a * 2 ^ M) (b * 2 ^ M) = compare a b := by
  have hp := pow_pos_int M
  have h1 : (a * 2 ^ M < b * 2 ^ M) = (a < b) := propext (Int.mul_lt_mul_right hp)
  have h2 : (a * 2 ^ M = b * 2 ^ M) = (a = b) := propext ⟨fun h => Int.eq_of_mul_eq_mul_right (by omega) h, fun h => by rw [h]⟩
  simp only [compare, compareOfLessAndEq, h1, h2]
theorem order_fi {x y : Nat} {a b : Int} (hx : Fi x a) (hy : Fi y b) : double.order x y = some (compare a b) := by
  obtain ⟨s, k, hx, hs⟩ := hx
  obtain ⟨t, l, hy, ht⟩ := hy
  obtain ⟨M, hM⟩ : ∃ M, M = max k l := ⟨_, rfl⟩
  have hbase : min (-(k : Int)) (-(l : Int)) = -(M : Int) := by omega
  unfold Format.order
  rw [hx, hy]
  unfold Datum.order
  dsimp only
  rw [hbase, signed_fi k _ hs, signed_fi l _ ht, show k + (-(k : Int) - -(M : Int)).toNat = M by omega, show l + (-(l : Int) - -(M : Int)).toNat = M by omega, cmp_scaled]
theorem eq_fi {x y : Nat} {a b : Int} (hx : Fi x a) (hy : Fi y b) : (double.order x y == some .eq) = decide (a = b) := by
  rw [order_fi hx hy]
  by_cases c : a = b
  · subst c
    simp [compare, compareOfLessAndEq]
  · by_cases d : a < b <;> simp [compare, compareOfLessAndEq, c, d]
theorem of_int_fi {n : Int} (hn : n.natAbs < 9007199254740992) : Fi (floatOfInt .f64 n) n := by
  have := write_fi (sg := decide (n < 0)) (c := n) 0 (fun _ => rfl) hn
  rw [Nat.pow_zero, Nat.mul_one] at this
  exact this
theorem to_int_fi {b : Nat} {n : Int} (h : Fi b n) (h1 : -9223372036854775808 ≤ n) (h2 : n ≤ 9223372036854775807) : floatToIntVal .f64 b .i64 = some n := by
  obtain ⟨s, k, h, hs⟩ := h
  have hd : (FloatKind.f64.decode b).toInt .zero = some n := by
    show (double.read b).toInt .zero = some n
    rw [h]
    unfold Datum.toInt Datum.integral
    dsimp only
    rw [show (-(k : Int)).toNat = 0 by omega, show (- -(k : Int)).toNat = k by omega, Nat.shiftLeft_zero]
    have hc : Toward.zero.cut s (n.natAbs * 2 ^ k) k = n.natAbs * 2 ^ 0 := by
      by_cases h0 : n = 0
      · subst h0
        simp [Toward.cut]
      · rw [cut_exact _ _ _ _ (by omega), Nat.pow_zero, Nat.mul_one]
    rw [hc, signed_fi 0 0 hs, Int.pow_zero, Int.mul_one]
  unfold floatToIntVal
  rw [hd]
  have e1 : IntKind.i64.min = -9223372036854775808 := by decide
  have e2 : IntKind.i64.max = 9223372036854775807 := by decide
  dsimp only
  rw [e1, e2, if_pos ⟨h1, h2⟩]
theorem fi_0 : Fi 0 0 := by
  obtain ⟨k, hk⟩ : ∃ k, k = 1074 := ⟨_, rfl⟩
  refine ⟨false, k, ?_, fun h => absurd rfl h⟩
  rw [Int.natAbs_zero, Nat.zero_mul, hk]
  decide +kernel
theorem fi_1 : Fi 4607182418800017408 1 := ⟨false, 52, by decide +kernel, fun _ => rfl⟩
theorem fi_m1 : Fi 13830554455654793216 (-1) := ⟨true, 52, by decide +kernel, fun _ => rfl⟩
end Go.Proofs.Ytekeaoolodmdaaa.Mt
/- Windows' numbers as pairs of whole numbers. -/
namespace Go.Proofs.Ytekeaoolodmdaaa.Mt
def lo (b : UInt8) : Int := (b.toNat % 16 : Nat)
def hi (b : UInt8) : Int := (b.toNat / 16 : Nat)
theorem lo_le (b : UInt8) : 0 ≤ lo b ∧ lo b ≤ 15 := by unfold lo; omega
theorem hi_le (b : UInt8) : 0 ≤ hi b ∧ hi b ≤ 15 := by unfold hi; have := b.toNat_lt; omega
/- a pair turned by i, k times -/
def rx (k : Nat) (x y : Int) : Int := if k % 4 = 0 then x else if k % 4 = 1 then -y else if k % 4 = 2 then -x else y
def ry (k : Nat) (x y : Int) : Int := if k % 4 = 0 then y else if k % 4 = 1 then x else if k % 4 = 2 then -y else -x
theorem rx_le {k : Nat} {x y : Int} {c : Nat} (hx : x.natAbs ≤ c) (hy : y.natAbs ≤ c) : (rx k x y).natAbs ≤ c := by unfold rx; split <;> (try split) <;> (try split) <;> omega
theorem ry_le {k : Nat} {x y : Int} {c : Nat} (hx : x.natAbs ≤ c) (hy : y.natAbs ≤ c) : (ry k x y).natAbs ≤ c := by unfold ry; split <;> (try split) <;> (try split) <;> omega
/- the sums of a window's first bytes -/
def wx (f : Nat → UInt8) : Nat → Int
  | 0 => 0
  | n + 1 => wx f n + rx (15 - n) (lo (f n)) (hi (f n))
def wy (f : Nat → UInt8) : Nat → Int
  | 0 => 0
  | n + 1 => wy f n + ry (15 - n) (lo (f n)) (hi (f n))
theorem wx_le (f : Nat → UInt8) (n : Nat) : (wx f n).natAbs ≤ 15 * n ∧ (wy f n).natAbs ≤ 15 * n := by
  induction n with
  | zero => exact ⟨Nat.le_refl _, Nat.le_refl _⟩
  | succ n ih =>
    have h1 := lo_le (f n)
    have h2 := hi_le (f n)
    have h3 := rx_le (k := 15 - n) (x := lo (f n)) (y := hi (f n)) (c := 15) (by omega) (by omega)
    have h4 := ry_le (k := 15 - n) (x := lo (f n)) (y := hi (f n)) (c := 15) (by omega) (by omega)
    have e1 : wx f (n + 1) = wx f n + rx (15 - n) (lo (f n)) (hi (f n)) := rfl
    have e2 : wy f (n + 1) = wy f n + ry (15 - n) (lo (f n)) (hi (f n)) := rfl
    rw [e1, e2]
    omega
theorem wx_congr {f g : Nat → UInt8} {n : Nat} (h : ∀ i, i < n → f i = g i) : wx f n = wx g n ∧ wy f n = wy g n := by
  induction n with
  | zero => exact ⟨rfl, rfl⟩
  | succ n ih =>
    have h1 := ih fun i hi => h i (by omega)
    unfold wx wy
    rw [h1.1, h1.2, h n (by omega)]
    exact ⟨rfl, rfl⟩
/- one byte on -/
theorem wx_roll (f : Nat → UInt8) : wx (fun i => f (i + 1)) 16 = -wy f 16 - lo (f 0) + lo (f 16) ∧ wy (fun i => f (i + 1)) 16 = wx f 16 - hi (f 0) + hi (f 16) := by
  simp only [wx, wy, rx, ry, Nat.reduceSub, Nat.reduceMod, Nat.reduceAdd, Nat.reduceEqDiff, if_true, if_false]
  constructor
  · simp; omega
  · simp; omega
def swapF (f : Nat → UInt8) (i k : Nat) (j : Nat) : UInt8 := if j = i then f k else if j = k then f i else f j
theorem wx_four (f : Nat → UInt8) (i k : Nat) (hi' : i < 16) (hk : k < 16) (h : i % 4 = k % 4) : wx (swapF f i k) 16 = wx f 16 ∧ wy (swapF f i k) 16 = wy f 16 := by
  have key : ∀ a b, a ≤ 15 → b ≤ 15 → a % 4 = b % 4 → wx (swapF f a b) 16 = wx f 16 ∧ wy (swapF f a b) 16 = wy f 16 := by
    intro a b ha hb hab
    obtain ⟨c, r, rfl, hc, hr⟩ : ∃ c r, a = 4 * c + r ∧ c < 4 ∧ r < 4 := ⟨a / 4, a % 4, by omega, by omega, by omega⟩
    obtain ⟨d, rfl, hd⟩ : ∃ d, b = 4 * d + r ∧ d < 4 := ⟨b / 4, by omega, by omega⟩
    clear ha hb hab
    have e : ∀ j, swapF f (4 * c + r) (4 * d + r) j = if j % 4 = r then (if j / 4 = c then f (4 * d + r) else if j / 4 = d then f (4 * c + r) else f j) else f j := by
      intro j
      unfold swapF
      by_cases h1 : j % 4 = r
      · rw [if_pos h1]
        by_cases h2 : j / 4 = c
        · rw [if_pos h2, if_pos (by omega)]
        · rw [if_neg h2, if_neg (by omega)]
          by_cases h3 : j / 4 = d
          · rw [if_pos h3, if_pos (by omega)]
          · rw [if_neg h3, if_neg (by omega)]
      · rw [if_neg h1, if_neg (by omega), if_neg (by omega)]
    have hcs : c = 0 ∨ c = 1 ∨ c = 2 ∨ c = 3 := by omega
    have hds : d = 0 ∨ d = 1 ∨ d = 2 ∨ d = 3 := by omega
    have hrs : r = 0 ∨ r = 1 ∨ r = 2 ∨ r = 3 := by omega
    rcases hrs with rfl | rfl | rfl | rfl <;> rcases hcs with rfl | rfl | rfl | rfl <;> rcases hds with rfl | rfl | rfl | rfl <;>
      (simp only [wx, wy, e, rx, ry, Nat.reduceSub, Nat.reduceMod, Nat.reduceAdd, Nat.reduceMul, Nat.reduceDiv, Nat.reduceEqDiff, if_true, if_false]; constructor <;> simp <;> omega)
  exact key i k (by omega) (by omega) h
end Go.Proofs.Ytekeaoolodmdaaa.Mt
