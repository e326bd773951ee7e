import Derived.Test.YtmcaapgcplhhmaaFb
/- Sketches of lists of bytes, as eight whole numbers; how far two are apart. -/
namespace Go.Proofs.Ytmcaapgcplhhmaa
def lo (b : UInt8) : Int := (b.toNat % 16 : Nat)
def hi (b : UInt8) : Int := (b.toNat / 16 : Nat)
theorem lo_le (b : UInt8) : 0 ≤ lo b ∧ lo b ≤ 15 := by unfold lo; omega
theorem hi_le (b : UInt8) : 0 ≤ hi b ∧ hi b ≤ 15 := by unfold hi; have := b.toNat_lt; omega
/- what one byte gives to number i of the eight -/
def part (b : UInt8) (i : Nat) : Int := if i / 2 = b.toNat % 4 then (if i % 2 = 0 then lo b else hi b) else 0
theorem part_le (b : UInt8) (i : Nat) : 0 ≤ part b i ∧ part b i ≤ 15 := by
  have h1 := lo_le b
  have h2 := hi_le b
  unfold part
  split <;> (try split) <;> omega
theorem part_re (b : UInt8) : part b (2 * (b.toNat % 4)) = lo b := by
  unfold part
  rw [if_pos (by omega), if_pos (by omega)]
theorem part_im (b : UInt8) : part b (2 * (b.toNat % 4) + 1) = hi b := by
  unfold part
  rw [if_pos (by omega), if_neg (by omega)]
theorem part_no (b : UInt8) (i : Nat) (h : i / 2 ≠ b.toNat % 4) : part b i = 0 := by
  unfold part
  rw [if_neg h]
def sk : List UInt8 → Nat → Int
  | [], _ => 0
  | b :: l, i => part b i + sk l i
theorem sk_append (l m : List UInt8) (i : Nat) : sk (l ++ m) i = sk l i + sk m i := by
  induction l with
  | nil => show sk m i = 0 + _; omega
  | cons b l ih => show part b i + sk (l ++ m) i = part b i + sk l i + _; rw [ih]; omega
theorem sk_snoc (l : List UInt8) (b : UInt8) (i : Nat) : sk (l ++ [b]) i = sk l i + part b i := by
  rw [sk_append]
  show _ + (part b i + 0) = _
  omega
theorem sk_le (l : List UInt8) (i : Nat) : 0 ≤ sk l i ∧ sk l i ≤ 15 * l.length := by
  induction l with
  | nil => exact ⟨Int.le_refl _, Int.le_refl _⟩
  | cons b l ih =>
    have h := part_le b i
    have e : sk (b :: l) i = part b i + sk l i := rfl
    rw [e, List.length_cons]
    omega
theorem sk_reverse (l : List UInt8) (i : Nat) : sk l.reverse i = sk l i := by
  induction l with
  | nil => rfl
  | cons b l ih =>
    rw [List.reverse_cons, sk_snoc, ih]
    show _ = part b i + sk l i
    omega
/- a text's bytes -/
def bl (s : ByteArray) : List UInt8 := s.data.toList
theorem bl_len (s : ByteArray) : (bl s).length = s.size := by unfold bl; rw [Array.length_toList]; rfl
theorem bl_append (s t : ByteArray) : bl (s ++ t) = bl s ++ bl t := by
  unfold bl
  rw [ByteArray.data_append, Array.toList_append]
def sAt (t : ByteArray) (j : Nat) : UInt8 := t.data.toList.getD j 0
theorem take_next (s : ByteArray) (j : Nat) (h : j < s.size) : (bl s).take (j + 1) = (bl s).take j ++ [sAt s j] := by
  have hl := bl_len s
  rw [List.take_succ_eq_append_getElem (by omega)]
  congr 2
  unfold sAt
  rw [List.getD_eq_getElem?_getD]
  show _ = ((bl s)[j]?).getD 0
  rw [List.getElem?_eq_getElem (by omega)]
  rfl
/- the parts, one behind the other -/
def pre (ss : Nat → ByteArray) : Nat → List UInt8
  | 0 => []
  | k + 1 => pre ss k ++ bl (ss k)
theorem pre_len_le (ss : Nat → ByteArray) (c : Nat) (len : Nat) (h : ∀ i, i < len → (ss i).size ≤ c) : (pre ss len).length ≤ c * len := by
  induction len with
  | zero => exact Nat.le_refl _
  | succ k ih =>
    have h1 := ih (fun i hi => h i (by omega))
    have h2 := h k (by omega)
    show (pre ss k ++ bl (ss k)).length ≤ _
    rw [List.length_append, bl_len, Nat.mul_succ]
    omega
theorem pre_mono (ss : Nat → ByteArray) {a b : Nat} (h : a ≤ b) : (pre ss a).length ≤ (pre ss b).length := by
  induction h with
  | refl => exact Nat.le_refl _
  | step _ ih =>
    refine Nat.le_trans ih ?_
    show _ ≤ (pre ss _ ++ bl (ss _)).length
    rw [List.length_append]
    omega
/- numbers that are those of a text of no more than 2 to the 20th bytes -/
def Ok (g : Nat → Int) : Prop := ∀ i, 0 ≤ g i ∧ g i ≤ 16777216
theorem Ok.sk {l : List UInt8} (h : l.length ≤ 1048576) : Ok (sk l) := fun i => by have := sk_le l i; omega
/- how far two are apart, the first n numbers -/
def farN (g h : Nat → Int) : Nat → Nat
  | 0 => 0
  | n + 1 => farN g h n + (g n - h n).natAbs
def far (g h : Nat → Int) : Nat := farN g h 8
theorem farN_le {g h : Nat → Int} (hg : Ok g) (hh : Ok h) (n : Nat) : farN g h n ≤ 16777216 * n := by
  induction n with
  | zero => exact Nat.le_refl _
  | succ n ih =>
    have h1 := hg n
    have h2 := hh n
    show farN g h n + _ ≤ _
    omega
theorem far_le {g h : Nat → Int} (hg : Ok g) (hh : Ok h) : far g h ≤ 134217728 := farN_le hg hh 8
theorem farN_comm (g h : Nat → Int) (n : Nat) : farN g h n = farN h g n := by
  induction n with
  | zero => rfl
  | succ n ih => unfold farN; rw [ih]; omega
theorem far_comm (g h : Nat → Int) : far g h = far h g := farN_comm g h 8
theorem farN_self (g : Nat → Int) (n : Nat) : farN g g n = 0 := by
  induction n with
  | zero => rfl
  | succ n ih => unfold farN; rw [ih]; omega
theorem far_self (g : Nat → Int) : far g g = 0 := farN_self g 8
theorem farN_tri (f g h : Nat → Int) (n : Nat) : farN f h n ≤ farN f g n + farN g h n := by
  induction n with
  | zero => exact Nat.le_refl _
  | succ n ih => unfold farN; omega
theorem far_tri (f g h : Nat → Int) : far f h ≤ far f g + far g h := farN_tri f g h 8
theorem farN_zero (g h : Nat → Int) (n : Nat) : farN g h n = 0 ↔ ∀ i, i < n → g i = h i := by
  induction n with
  | zero => exact ⟨fun _ i hi => by omega, fun _ => rfl⟩
  | succ n ih =>
    unfold farN
    constructor
    · intro e i hi
      have e1 := ih.1 (by omega)
      by_cases c : i < n
      · exact e1 i c
      · have : i = n := by omega
        subst this
        omega
    · intro e
      have e1 := ih.2 fun i hi => e i (by omega)
      have e2 := e n (by omega)
      omega
theorem far_zero (g h : Nat → Int) : far g h = 0 ↔ ∀ i, i < 8 → g i = h i := farN_zero g h 8
end Go.Proofs.Ytmcaapgcplhhmaa
