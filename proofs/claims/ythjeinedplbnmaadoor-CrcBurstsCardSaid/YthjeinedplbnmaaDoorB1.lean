import Derived.Test.YthjeinedplbnmaaDoorW6
namespace Go.Proofs.YthjeinedplbnmaaDoor
/- a bit of a text is turned: bit k of the text is bit k % 8 of byte k / 8 -/
def bit8 (r : Nat) : UInt8 := UInt8.ofNat (2 ^ r)
def flip (f : Nat → UInt8) (k j : Nat) : UInt8 := if j = k / 8 then f j ^^^ bit8 (k % 8) else f j
theorem bit8_stps : ∀ r, r < 8 → stps 8 (X8 (bit8 r)) = stps (8 - r) 1#32 := by decide +kernel
theorem feed_flip (x : W32) (b : UInt8) (r : Nat) (h : r < 8) : feed x (b ^^^ bit8 r) = feed x b ^^^ stps (8 - r) 1#32 := by
  unfold feed
  rw [X8_xor, ← BitVec.xor_assoc, stps_xor, bit8_stps r h]
theorem feeds_flip (x : W32) (f : Nat → UInt8) (n k : Nat) (h : k < 8 * n) : feeds x (flip f k) n = feeds x f n ^^^ stps (8 * n - k) 1#32 := by
  obtain ⟨q, hq⟩ : ∃ q, q = k / 8 := ⟨_, rfl⟩
  obtain ⟨m, rfl⟩ : ∃ m, n = q + 1 + m := ⟨n - (q + 1), by omega⟩
  have e0 : feeds x (flip f k) q = feeds x f q := feeds_congr (fun i hi => by unfold flip; rw [if_neg (by omega)]) x
  have e1 : feeds x (flip f k) (q + 1) = feeds x f (q + 1) ^^^ stps (8 - k % 8) 1#32 := by
    show feed (feeds x (flip f k) q) (flip f k q) = feed (feeds x f q) (f q) ^^^ _
    rw [e0]
    have e : flip f k q = f q ^^^ bit8 (k % 8) := by unfold flip; rw [if_pos hq]
    rw [e, feed_flip _ _ _ (by omega)]
  rw [feeds_add x (flip f k) (fun i => f (q + 1 + i)) (q + 1) m (fun i _ => by unfold flip; rw [if_neg (by omega)]), e1, feeds_xor, ← stps_add, feeds_add x f (fun i => f (q + 1 + i)) (q + 1) m (fun i _ => rfl), show 8 * m + (8 - k % 8) = 8 * (q + 1 + m) - k by omega]
/- four bytes as a word -/
def word (g : Nat → UInt8) : W32 := X8 (g 0) ^^^ X8 (g 1) <<< 8 ^^^ X8 (g 2) <<< 16 ^^^ X8 (g 3) <<< 24
theorem X8_bit (b : UInt8) (j : Nat) : (X8 b).getLsbD j = b.toBitVec.getLsbD j := by
  unfold X8
  rw [BitVec.getLsbD_setWidth]
  by_cases c : j < 32
  · rw [decide_eq_true c, Bool.true_and]
  · rw [BitVec.getLsbD_of_ge b.toBitVec j (by omega), Bool.and_false]
theorem word_bit (g : Nat → UInt8) (i r : Nat) (hi : i < 4) (hr : r < 8) : (word g).getLsbD (8 * i + r) = (g i).toBitVec.getLsbD r := by
  have z : ∀ (b : UInt8) (j : Nat), 8 ≤ j → b.toBitVec.getLsbD j = false := fun b j h => BitVec.getLsbD_of_ge _ _ h
  unfold word
  simp only [BitVec.getLsbD_xor, BitVec.getLsbD_shiftLeft, X8_bit]
  match i, hi with
  | 0, _ => simp [show r < 24 by omega, show r < 16 by omega, hr]
  | 1, _ => simp [z (g 0) (8 + r) (by omega), show 8 + r < 24 by omega, show 8 + r < 16 by omega, show 8 + r < 32 by omega]
  | 2, _ => simp [z (g 0) (16 + r) (by omega), z (g 1) (16 + r - 8) (by omega), show 16 + r < 24 by omega, show 16 + r < 32 by omega]
  | 3, _ => simp [z (g 0) (24 + r) (by omega), z (g 1) (24 + r - 8) (by omega), z (g 2) (24 + r - 16) (by omega), show 24 + r < 32 by omega]
theorem sb_bit (y : W32) (i r : Nat) (hr : r < 8) : (sb y i).toBitVec.getLsbD r = y.getLsbD (8 * i + r) := by
  have e : (sb y i).toBitVec.toNat = y.toNat / 256 ^ i % 256 := by
    have : (sb y i).toNat = y.toNat / 256 ^ i % 256 := by unfold sb; rw [UInt8.toNat_ofNat']
    exact this
  rw [← BitVec.testBit_toNat, e, ← BitVec.testBit_toNat, show (256 : Nat) = 2 ^ 8 by rfl, ← Nat.pow_mul, Nat.testBit_mod_two_pow, Nat.testBit_div_two_pow, decide_eq_true hr, Bool.true_and, Nat.add_comm]
theorem u8_ext {a b : UInt8} (h : ∀ r, r < 8 → a.toBitVec.getLsbD r = b.toBitVec.getLsbD r) : a = b := by
  apply UInt8.toBitVec_inj.1
  exact BitVec.eq_of_getLsbD_eq h
theorem word_eq (g : Nat → UInt8) (y : W32) : word g = y ↔ ∀ i, i < 4 → sb y i = g i := by
  constructor
  · intro h i hi
    subst h
    exact u8_ext fun r hr => by rw [sb_bit _ _ _ hr, word_bit g i r hi hr]
  · intro h
    apply BitVec.eq_of_getLsbD_eq
    intro j hj
    have hd : j = 8 * (j / 8) + j % 8 := by omega
    have h4 : j / 8 < 4 := by omega
    have h8 : j % 8 < 8 := by omega
    rw [hd, word_bit g (j / 8) (j % 8) h4 h8, ← h (j / 8) h4, sb_bit _ _ _ h8]
/- a byte that stands m bits up falls down in m steps -/
theorem up_down (b : UInt8) : ∀ m, m ≤ 24 → stps m (X8 b <<< m) = X8 b := by
  intro m
  induction m with
  | zero => intro _; show X8 b <<< 0 = _; rw [BitVec.shiftLeft_zero]
  | succ k ih =>
    intro hk
    rw [stps_add k 1]
    have e : stps 1 (X8 b <<< (k + 1)) = X8 b <<< k := by
      show stp (X8 b <<< (k + 1)) = _
      have o : odd (X8 b <<< (k + 1)) = false := by
        unfold odd
        rw [BitVec.getLsbD_shiftLeft]
        simp
      rw [stp_even o]
      apply BitVec.eq_of_getLsbD_eq
      intro j hj
      rw [BitVec.getLsbD_ushiftRight, BitVec.getLsbD_shiftLeft, BitVec.getLsbD_shiftLeft, X8_bit, X8_bit, show 1 + j - (k + 1) = j - k by omega]
      by_cases c : 1 + j < 32
      · by_cases c2 : j < k
        · simp [c, c2, hj, show 1 + j < k + 1 by omega]
        · simp [c, c2, hj, show ¬ 1 + j < k + 1 by omega]
      · have z : b.toBitVec.getLsbD (j - k) = false := BitVec.getLsbD_of_ge _ _ (by omega)
        rw [z]; simp
    rw [e]
    exact ih (by omega)
theorem feeds_word (x : W32) (g : Nat → UInt8) : feeds x g 4 = stps 32 (x ^^^ word g) := by
  have h1 := up_down (g 1) 8 (by omega)
  have h2 := up_down (g 2) 16 (by omega)
  have h3 := up_down (g 3) 24 (by omega)
  have e : feeds x g 4 = feed (feed (feed (feed x (g 0)) (g 1)) (g 2)) (g 3) := rfl
  rw [e]
  unfold feed word
  have s1 : stps 32 (X8 (g 1) <<< 8) = stps 24 (X8 (g 1)) := (stps_add 24 8 _).trans (congrArg (stps 24) h1)
  have s2 : stps 32 (X8 (g 2) <<< 16) = stps 16 (X8 (g 2)) := (stps_add 16 16 _).trans (congrArg (stps 16) h2)
  have s3 : stps 32 (X8 (g 3) <<< 24) = stps 8 (X8 (g 3)) := (stps_add 8 24 _).trans (congrArg (stps 8) h3)
  rw [stps_xor 32, stps_xor 32, stps_xor 32, stps_xor 32, s1, s2, s3]
  simp only [stps_xor 8, ← stps_add]
  simp only [BitVec.xor_assoc]
/- what is sealed -/
theorem sealed_iff (g : Nat → UInt8) (n : Nat) : okS (str (n + 4) g) = decide (feeds ones g (n + 4) = stps 32 ones) := by
  have hz : (str (n + 4) g).size = n + 4 := str_size _ _
  have ex : (str (n + 4) g).extract 0 n = str n g := by
    have e1 : str (n + 4) g = str n g ++ str 4 (fun i => g (n + i)) := (str_add n 4 g _ (fun _ _ => rfl)).symm
    rw [e1]
    exact ByteArray.extract_append_eq_left (str_size _ _).symm
  unfold okS
  rw [hz, decide_eq_true (show 4 ≤ n + 4 by omega), Bool.true_and, show n + 4 - 4 = n by omega, ex, decide_eq_decide]
  unfold sealS
  have es : sumF (sAt (str n g)) (str n g).size = ~~~feeds ones g n := by
    rw [str_size]
    unfold sumF
    rw [feeds_congr (fun i hi => str_at n g i hi)]
  rw [es, feeds_add ones g (fun i => g (n + i)) n 4 (fun _ _ => rfl), feeds_word]
  generalize feeds ones g n = F
  have e1 : str (n + 4) g = str n g ++ str 4 (fun i => g (n + i)) := (str_add n 4 g _ (fun _ _ => rfl)).symm
  rw [e1, ByteArray.append_right_inj]
  have e2 : (str 4 (sb (~~~F)) = str 4 fun i => g (n + i)) ↔ ∀ i, i < 4 → sb (~~~F) i = (fun i => g (n + i)) i := by
    constructor
    · intro h i hi
      have h2 : sAt (str 4 (sb (~~~F))) i = sAt (str 4 fun i => g (n + i)) i := by rw [h]
      rw [str_at _ _ _ hi, str_at _ _ _ hi] at h2
      exact h2
    · intro h
      exact str_congr h
  rw [e2, ← word_eq]
  generalize word (fun i => g (n + i)) = v
  constructor
  · intro h
    rw [h, not_xor, BitVec.xor_comm ones F, ← BitVec.xor_assoc, BitVec.xor_self, BitVec.zero_xor]
  · intro h
    have h2 := stps_inj h
    rw [not_xor, ← h2, BitVec.xor_assoc, BitVec.xor_comm v F, ← BitVec.xor_assoc, BitVec.xor_self, BitVec.zero_xor]
/- bits of a burst: E are those that were turned, from bit 'from' on -/
theorem one_stps : ∀ i, i < 32 → stps i (BitVec.ofNat 32 (2 ^ i)) = 1#32 := by decide +kernel
theorem burst_step (f : Nat → UInt8) (n a i : Nat) (R E : W32) (hi : i < 32) (hk : a + i < 8 * n) (h : feeds ones f n = R ^^^ stps (8 * n - a) E) :
    feeds ones (flip f (a + i)) n = R ^^^ stps (8 * n - a) (E ^^^ BitVec.ofNat 32 (2 ^ i)) := by
  rw [feeds_flip _ _ _ _ hk, h, stps_xor, BitVec.xor_assoc]
  congr 2
  rw [show 8 * n - a = (8 * n - (a + i)) + i by omega, stps_add, one_stps i hi]
theorem burst_bits (E : W32) (i : Nat) (hi : i < 32) (h : E.toNat < 2 ^ i) : (E ^^^ BitVec.ofNat 32 (2 ^ i)).toNat = E.toNat + 2 ^ i := by
  have h2 : 2 ^ i < 2 ^ 32 := Nat.pow_lt_pow_right (by omega) hi
  rw [BitVec.toNat_xor, BitVec.toNat_ofNat, Nat.mod_eq_of_lt h2]
  apply Nat.eq_of_testBit_eq
  intro j
  rw [Nat.testBit_xor, Nat.add_comm, Nat.testBit_two_pow]
  by_cases c : i = j
  · subst c
    rw [Nat.testBit_two_pow_add_eq, Nat.testBit_lt_two_pow h]
    simp
  · by_cases c2 : j < i
    · rw [Nat.testBit_two_pow_add_gt c2]; simp [c]
    · have z1 : E.toNat.testBit j = false := Nat.testBit_lt_two_pow (Nat.lt_of_lt_of_le h (Nat.pow_le_pow_right (by omega) (by omega)))
      have z2 : (2 ^ i + E.toNat).testBit j = false := Nat.testBit_lt_two_pow (by
        have h3 : 2 ^ (i + 1) ≤ 2 ^ j := Nat.pow_le_pow_right (by omega) (by omega)
        rw [Nat.pow_succ] at h3
        omega)
      rw [z1, z2]; simp [c]
theorem burst_end (f : Nat → UInt8) (n a : Nat) (E : W32) (h : feeds ones f (n + 4) = stps 32 ones ^^^ stps (8 * (n + 4) - a) E) : okS (str (n + 4) f) = decide (E = 0#32) := by
  rw [sealed_iff, decide_eq_decide, h]
  constructor
  · intro e
    apply stps_inj0 (n := 8 * (n + 4) - a)
    have e2 : stps 32 ones ^^^ (stps 32 ones ^^^ stps (8 * (n + 4) - a) E) = stps 32 ones ^^^ stps 32 ones := by rw [e]
    rw [← BitVec.xor_assoc, BitVec.xor_self, BitVec.zero_xor] at e2
    exact e2
  · intro e
    rw [e, stps_zero, BitVec.xor_zero]
end Go.Proofs.YthjeinedplbnmaaDoor
