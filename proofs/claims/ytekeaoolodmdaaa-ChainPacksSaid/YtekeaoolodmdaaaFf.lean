import Derived.Test.YtekeaoolodmdaaaMXfm
import Derived.Laws.BitsAll
/- The float that stands for a whole number, as a function; sums, differences and sizes of such floats are such floats. -/
namespace Go.Proofs.Ytekeaoolodmdaaa
open Ieee Go.Proofs.Ytekeaoolodmdaaa.Mt
def FB (n : Int) : Nat := floatOfInt .f64 n
/- the rung of a size -/
def rung (m : Nat) : Nat := if m = 0 then 0 else (m.log2 + 1022) * 4503599627370496 + m * 2 ^ (52 - m.log2)
theorem rung_lt (m : Nat) (hb : m < 9007199254740992) : rung m < 9223372036854775808 := by
  unfold rung
  by_cases h0 : m = 0
  · rw [if_pos h0]; omega
  rw [if_neg h0]
  have hl := (Nat.log2_eq_iff (n := m) (k := m.log2) h0).1 rfl
  have hL : m.log2 ≤ 52 := by
    have : m.log2 < 53 := (Nat.log2_lt h0).2 hb
    omega
  generalize m.log2 = L at *
  have c2 : m * 2 ^ (52 - L) < 9007199254740992 := by
    have := Nat.mul_lt_mul_of_pos_right hl.2 (Nat.two_pow_pos (52 - L))
    rw [← Nat.pow_add, show L + 1 + (52 - L) = 53 by omega] at this
    exact this
  omega
theorem nearest_rung (sg : Bool) (m M : Nat) (hb : m < 9007199254740992) : double.nearest sg (m * 2 ^ M) (-(M : Int)) = double.word sg (rung m) := by
  unfold rung
  by_cases h0 : m = 0
  · subst h0
    rw [if_pos rfl, Nat.zero_mul]
    unfold Format.nearest
    rw [if_pos rfl]
  rw [if_neg h0]
  have hm : 0 < m := by omega
  have h2 : 0 < 2 ^ M := Nat.two_pow_pos _
  have hl := (Nat.log2_eq_iff (n := m) (k := m.log2) (by omega)).1 rfl
  have hL : m.log2 ≤ 52 := by
    have : m.log2 < 53 := (Nat.log2_lt (by omega)).2 hb
    omega
  have hlog := log2_scaled m M hm
  generalize m.log2 = L at *
  have e1 : double.fractionBits = 52 := rfl
  have e2 : double.leastPlace = -1074 := by decide
  have e3 : double.binade = 4503599627370496 := by decide
  have e4 : double.infRung = 9218868437227405312 := by decide
  have c2 : m * 2 ^ (52 - L) < 9007199254740992 := by
    have := Nat.mul_lt_mul_of_pos_right hl.2 (Nat.two_pow_pos (52 - L))
    rw [← Nat.pow_add, show L + 1 + (52 - L) = 53 by omega] at this
    exact this
  have c1 : 0 < m * 2 ^ (52 - L) := Nat.mul_pos hm (Nat.two_pow_pos _)
  unfold Format.nearest
  rw [if_neg (Nat.ne_of_gt (Nat.mul_pos hm h2)), hlog, e1, e2, e3, e4]
  have hlast : max (-(M : Int) + ((L + M : Nat) : Int) - ((52 : Nat) : Int)) (-1074) = (L : Int) - 52 := by omega
  dsimp only
  rw [hlast]
  have ha : (m * 2 ^ M) <<< (-(M : Int) - ((L : Int) - 52)).toNat = m * 2 ^ (52 - L) * 2 ^ ((L : Int) - 52 - -(M : Int)).toNat := by
    rw [Nat.shiftLeft_eq, Nat.mul_assoc, Nat.mul_assoc, ← Nat.pow_add, ← Nat.pow_add]
    congr 2
    omega
  rw [ha, cut_exact _ _ _ _ c1, show ((L : Int) - 52 - -1074).toNat = L + 1022 by omega, Nat.min_eq_left (by omega)]
theorem FB_word (n : Int) (hn : n.natAbs < 9007199254740992) : FB n = double.word (decide (n < 0)) (rung n.natAbs) := by
  have h := nearest_rung (decide (n < 0)) n.natAbs 0 hn
  rw [Nat.pow_zero, Nat.mul_one] at h
  exact h
theorem FB_fi {n : Int} (hn : n.natAbs < 9007199254740992) : Fi (FB n) n := of_int_fi hn
/- the datum of such a float, its sign said of 0, too -/
theorem FB_read (n : Int) (hn : n.natAbs < 9007199254740992) : ∃ k : Nat, double.read (FB n) = .number (decide (n < 0)) (n.natAbs * 2 ^ k) (-(k : Int)) := by
  have hw := FB_word n hn
  by_cases h0 : n = 0
  · subst h0
    obtain ⟨k, hk⟩ : ∃ k, k = 1074 := ⟨_, rfl⟩
    refine ⟨k, ?_⟩
    rw [Int.natAbs_zero, Nat.zero_mul, hk]
    have e : FB 0 = double.word false 0 := hw
    rw [e]
    decide +kernel
  · have h := read_nearest (decide (n < 0)) n.natAbs 0 (by omega) hn
    rw [nearest_rung _ _ _ hn, ← hw] at h
    exact ⟨_, h⟩
theorem sum_FB {x y : Datum} {a b : Int} {k l : Nat} {s t : Bool} (hx : x = .number s (a.natAbs * 2 ^ k) (-(k : Int))) (hy : y = .number t (b.natAbs * 2 ^ l) (-(l : Int))) (hs : a ≠ 0 → s = decide (a < 0)) (ht : b ≠ 0 → t = decide (b < 0)) (h0 : a + b = 0 → (s && t) = false)
    (hb : (a + b).natAbs < 9007199254740992) : (x.sum y).map double.write = some (FB (a + b)) := by
  subst hx hy
  obtain ⟨M, hM⟩ : ∃ M, M = max k l := ⟨_, rfl⟩
  have hbase : min (-(k : Int)) (-(l : Int)) = -(M : Int) := by omega
  unfold Datum.sum
  dsimp only
  rw [hbase, signed_fi k _ hs, signed_fi l _ ht, show k + (-(k : Int) - -(M : Int)).toNat = M by omega, show l + (-(l : Int) - -(M : Int)).toNat = M by omega, ← Int.add_mul]
  have hp := pow_pos_int M
  rw [Int.natAbs_mul, show ((2 : Int) ^ M).natAbs = 2 ^ M by rw [Int.natAbs_pow]; rfl, FB_word _ hb]
  show some (double.nearest _ _ _) = _
  rw [nearest_rung _ _ _ hb]
  congr 2
  by_cases c0 : a + b = 0
  · rw [h0 c0, c0, Int.zero_mul, if_pos rfl]; rfl
  · rw [if_neg (Int.mul_ne_zero c0 (by omega))]
    by_cases c : a + b < 0
    · rw [decide_eq_true c, decide_eq_true (Int.mul_neg_of_neg_of_pos c hp)]
    · rw [decide_eq_false c, decide_eq_false (by have := Int.mul_nonneg (show 0 ≤ a + b by omega) (Int.le_of_lt hp); omega)]
theorem add_FB (a b : Int) (ha : 0 ≤ a) (ha2 : a < 4503599627370496) (hb : 0 ≤ b) (hb2 : b < 4503599627370496) : double.add (FB a) (FB b) = some (FB (a + b)) := by
  obtain ⟨k, hk⟩ := FB_read a (by omega)
  obtain ⟨l, hl⟩ := FB_read b (by omega)
  exact sum_FB hk hl (fun _ => rfl) (fun _ => rfl) (fun h => by rw [decide_eq_false (by omega)]; rfl) (by omega)
theorem sub_FB (a b : Int) (ha : 0 ≤ a) (ha2 : a < 4503599627370496) (hb : 0 ≤ b) (hb2 : b < 4503599627370496) : double.sub (FB a) (FB b) = some (FB (a - b)) := by
  obtain ⟨k, hk⟩ := FB_read a (by omega)
  obtain ⟨l, hl⟩ := FB_read b (by omega)
  have hl2 : (double.read (FB b)).opposite = .number (!decide (b < 0)) ((-b).natAbs * 2 ^ l) (-(l : Int)) := by rw [hl, Int.natAbs_neg]; rfl
  have h := sum_FB (a := a) (b := -b) hk hl2 (fun _ => rfl) (fun h => by
    rw [decide_eq_false (by omega), decide_eq_true (by omega)]; rfl) (fun h => by rw [decide_eq_false (by omega)]; rfl) (by omega)
  rw [← Int.sub_eq_add_neg] at h
  exact h
theorem abs_FB (n : Int) (hn : n.natAbs < 9007199254740992) : bits .andNot .u64 (FB n : Int) 9223372036854775808 = (FB (n.natAbs : Int) : Int) := by
  have hr := rung_lt n.natAbs hn
  rw [FB_word n hn, FB_word (n.natAbs : Int) (by omega), Int.natAbs_natCast]
  have e : double.signWeight = 9223372036854775808 := by decide
  rw [decide_eq_false (show ¬ ((n.natAbs : Int) < 0) by omega)]
  generalize rung n.natAbs = r at *
  have hw : ∀ s, double.word s r = s.toNat * 9223372036854775808 + r := by
    intro s
    unfold Format.word
    rw [e]
    cases s <;> simp
  rw [hw, hw]
  generalize decide (n < 0) = s
  rw [u64_andNot _ _ (by omega) (by cases s <;> simp <;> omega) (by omega) (by omega)]
  congr 1
  rw [Int.toNat_natCast, show (18446744073709551615 - (9223372036854775808 : Int).toNat) = 2 ^ 63 - 1 by decide, Nat.and_two_pow_sub_one_eq_mod]
  cases s <;> simp <;> omega
theorem toInt_FB (n : Int) (hn : n.natAbs < 9007199254740992) : floatToIntVal .f64 (FB n) .i64 = some n := to_int_fi (FB_fi hn) (by omega) (by omega)
theorem order_FB (a b : Int) (ha : a.natAbs < 9007199254740992) (hb : b.natAbs < 9007199254740992) : double.order (FB a) (FB b) = some (compare a b) := order_fi (FB_fi ha) (FB_fi hb)
theorem eq_FB (a b : Int) (ha : a.natAbs < 9007199254740992) (hb : b.natAbs < 9007199254740992) : (double.order (FB a) (FB b) == some .eq) = decide (a = b) := eq_fi (FB_fi ha) (FB_fi hb)
theorem FB_fold (n : Int) : floatOfInt .f64 n = FB n := rfl
theorem integral_read (n : Int) (hn : n.natAbs < 9007199254740992) (way : Toward) : FloatKind.f64.encode ((double.read (FB n)).integral way) = FB n := by
  obtain ⟨k, hk⟩ := FB_read n hn
  rw [hk]
  have hc : way.cut (decide (n < 0)) (n.natAbs * 2 ^ k) k = n.natAbs := by
    by_cases h0 : n.natAbs = 0
    · rw [h0, Nat.zero_mul]
      cases way <;> simp [Toward.cut]
    · exact cut_exact _ _ _ _ (by omega)
  unfold Datum.integral
  dsimp only
  rw [show (-(k : Int)).toNat = 0 by omega, show (- -(k : Int)).toNat = k by omega, Nat.shiftLeft_zero, hc]
  have h := nearest_rung (decide (n < 0)) n.natAbs 0 hn
  rw [Nat.pow_zero, Nat.mul_one] at h
  rw [FB_word n hn]
  exact h
theorem FB_inj {a b : Int} (ha : a.natAbs < 9007199254740992) (hb : b.natAbs < 9007199254740992) (h : FB a = FB b) : a = b := by
  have e := eq_FB a b ha hb
  have e2 := eq_FB b b hb hb
  rw [h, e2] at e
  simpa using e.symm
theorem FB_0 : FB 0 = 0 := by
  have h : FB 0 = double.word false 0 := FB_word 0 (by decide)
  rw [h]; rfl
end Go.Proofs.Ytekeaoolodmdaaa
