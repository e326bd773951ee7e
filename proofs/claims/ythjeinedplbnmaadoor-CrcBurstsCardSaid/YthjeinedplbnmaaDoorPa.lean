import Derived.Laws.BitsAllLaws
import Derived.Laws.Shifts
namespace Go.Proofs.YthjeinedplbnmaaDoor
/- plain mathematics: 32-bit words, steps, feeding -/
abbrev W32 := BitVec 32
def U (x : W32) : Int := (x.toNat : Int)
theorem U_ge (x : W32) : 0 ≤ U x := by unfold U; omega
theorem U_lt (x : W32) : U x < 4294967296 := by unfold U; have := x.isLt; omega
theorem U_inj {x y : W32} (h : U x = U y) : x = y := by
  unfold U at h
  exact BitVec.eq_of_toNat_eq (by omega)
theorem U_xor (x y : W32) : bits .xor .u32 (U x) (U y) = U (x ^^^ y) := by
  unfold U; rw [u32_xor_nat _ _ (by have := x.isLt; omega) (by have := y.isLt; omega), BitVec.toNat_xor]
theorem U_and (x y : W32) : bits .and .u32 (U x) (U y) = U (x &&& y) := by
  unfold U; rw [u32_and_nat _ _ (by have := x.isLt; omega) (by have := y.isLt; omega), BitVec.toNat_and]
theorem U_shr (x : W32) (n : Nat) : U x / 2 ^ n = U (x >>> n) := by
  unfold U; rw [BitVec.toNat_ushiftRight, Nat.shiftRight_eq_div_pow, Int.natCast_ediv, Int.natCast_pow]; rfl
theorem U_shrm (x : W32) (n : Nat) : (U x >>> n) = U (x >>> n) := by
  rw [Int.shiftRight_eq_div_pow, ← U_shr, Int.natCast_pow]; rfl
theorem U_shr1 (x : W32) : U x / (2 : Int) = U (x >>> 1) := U_shr x 1
theorem U_shr4 (x : W32) : U x / (16 : Int) = U (x >>> 4) := U_shr x 4
theorem U_not (x : W32) : bits .xor .u32 (if IntKind.u32.signed = true then -1 else IntKind.u32.max) (U x) = U (~~~x) := by
  have e : (if IntKind.u32.signed = true then (-1 : Int) else IntKind.u32.max) = U (BitVec.allOnes 32) := by rfl
  rw [e, U_xor]
  congr 1
theorem U_neg (x : W32) : (4294967295 : Int) - U x = U (~~~x) := by
  unfold U
  rw [BitVec.toNat_not]
  have := x.isLt
  omega
theorem U_and15 (x : W32) : bits .and .u32 (U x) 15 = ((x.toNat % 16 : Nat) : Int) := by
  have e : (15 : Int) = U 15#32 := rfl
  rw [e, U_and]
  unfold U
  rw [BitVec.toNat_and]
  have h : (15#32 : W32).toNat = 2 ^ 4 - 1 := rfl
  rw [h, Nat.and_two_pow_sub_one_eq_mod]
def X8 (b : UInt8) : W32 := b.toBitVec.setWidth 32
theorem U_X8 (b : UInt8) : ((b.toNat : Nat) : Int) = U (X8 b) := by
  unfold U X8
  rw [BitVec.toNat_setWidth]
  have := b.toNat_lt
  show ((b.toBitVec.toNat : Nat) : Int) = _
  have h2 : b.toBitVec.toNat = b.toNat := rfl
  rw [h2, Nat.mod_eq_of_lt (by omega)]
theorem U_w8 (b : UInt8) : IntKind.u32.wrap ((b.toNat : Nat) : Int) = U (X8 b) := by
  rw [U_X8, IntKind.wrap_u32']; have := U_ge (X8 b); have := U_lt (X8 b); omega
theorem X8_xor (a b : UInt8) : X8 (a ^^^ b) = X8 a ^^^ X8 b := by
  unfold X8
  rw [UInt8.toBitVec_xor, BitVec.setWidth_xor]
/- the polynomial, and a step -/
def pol : W32 := 0xedb88320#32
def odd (x : W32) : Bool := x.getLsbD 0
def stp (x : W32) : W32 := if odd x then x >>> 1 ^^^ pol else x >>> 1
theorem xor4 (a b c : W32) : (a ^^^ c) ^^^ (b ^^^ c) = a ^^^ b := by
  rw [BitVec.xor_assoc, BitVec.xor_comm b c, ← BitVec.xor_assoc c c b, BitVec.xor_self, BitVec.zero_xor]
theorem stp_xor (a b : W32) : stp (a ^^^ b) = stp a ^^^ stp b := by
  have ho : odd (a ^^^ b) = (odd a).xor (odd b) := by unfold odd; rw [BitVec.getLsbD_xor]
  unfold stp
  rw [ho, BitVec.ushiftRight_xor_distrib]
  cases odd a <;> cases odd b <;> simp only [Bool.false_xor, Bool.true_xor, Bool.not_true, Bool.not_false, if_true, if_false, Bool.false_eq_true]
  · rw [BitVec.xor_assoc]
  · rw [BitVec.xor_assoc, BitVec.xor_comm (b >>> 1) pol, ← BitVec.xor_assoc]
  · rw [xor4]
theorem stp_zero : stp 0#32 = 0#32 := by decide
theorem stp_inj0 {x : W32} (h : stp x = 0#32) : x = 0#32 := by
  unfold stp at h
  cases ho : odd x
  · rw [ho] at h
    simp only [Bool.false_eq_true, if_false] at h
    unfold odd at ho
    apply BitVec.eq_of_getLsbD_eq
    intro i hi
    cases i with
    | zero => rw [ho]; rfl
    | succ k =>
      have h2 := congrArg (fun z : W32 => z.getLsbD k) h
      simp only [BitVec.getLsbD_ushiftRight, Nat.add_comm 1 k] at h2
      rw [h2]; simp
  · rw [ho] at h
    simp only [if_true] at h
    have h2 := congrArg (fun z : W32 => z.getLsbD 31) h
    simp only [BitVec.getLsbD_xor, BitVec.getLsbD_ushiftRight] at h2
    rw [BitVec.getLsbD_of_ge x (1 + 31) (by omega)] at h2
    exact absurd h2 (by decide)
def stps : Nat → W32 → W32
  | 0, x => x
  | n + 1, x => stp (stps n x)
theorem stps_add (n m : Nat) (x : W32) : stps (n + m) x = stps n (stps m x) := by
  induction n with
  | zero => rw [Nat.zero_add]; rfl
  | succ k ih => rw [Nat.succ_add]; show stp _ = stp _; rw [ih]
theorem stps_xor (n : Nat) (a b : W32) : stps n (a ^^^ b) = stps n a ^^^ stps n b := by
  induction n with
  | zero => rfl
  | succ k ih => show stp _ = stp _ ^^^ stp _; rw [ih, stp_xor]
theorem stps_zero (n : Nat) : stps n 0#32 = 0#32 := by
  induction n with
  | zero => rfl
  | succ k ih => show stp _ = _; rw [ih, stp_zero]
theorem stps_inj0 {n : Nat} {x : W32} (h : stps n x = 0#32) : x = 0#32 := by
  induction n with
  | zero => exact h
  | succ k ih => exact ih (stp_inj0 h)
theorem xor_eq0 {a b : W32} (h : a ^^^ b = 0#32) : a = b := by
  have h2 : (a ^^^ b) ^^^ b = 0#32 ^^^ b := by rw [h]
  rw [BitVec.xor_assoc, BitVec.xor_self, BitVec.xor_zero, BitVec.zero_xor] at h2
  exact h2
theorem stps_inj {n : Nat} {x y : W32} (h : stps n x = stps n y) : x = y := by
  apply xor_eq0
  apply stps_inj0 (n := n)
  rw [stps_xor, h, BitVec.xor_self]
/- a step in numbers -/
theorem odd_mod (x : W32) : odd x = decide (x.toNat % 2 = 1) := by
  unfold odd
  rw [← BitVec.testBit_toNat, Nat.testBit_zero]
theorem U_mod2 (x : W32) : U x % 2 = if odd x then 1 else 0 := by
  unfold U
  rw [odd_mod]
  by_cases c : x.toNat % 2 = 1
  · rw [decide_eq_true c, if_pos rfl]; omega
  · rw [decide_eq_false c, if_neg (by simp)]; omega
theorem U_xorP (x : W32) : bits .xor .u32 (U x) 3988292384 = U (x ^^^ pol) := by
  have e : (3988292384 : Int) = U pol := rfl
  rw [e, U_xor]
/- a byte is fed -/
def feed (x : W32) (b : UInt8) : W32 := stps 8 (x ^^^ X8 b)
/- the table -/
def hbl : List W32 := [0x00000000#32, 0x1db71064#32, 0x3b6e20c8#32, 0x26d930ac#32, 0x76dc4190#32, 0x6b6b51f4#32, 0x4db26158#32, 0x5005713c#32, 0xedb88320#32, 0xf00f9344#32, 0xd6d6a3e8#32, 0xcb61b38c#32, 0x9b64c2b0#32, 0x86d3d2d4#32, 0xa00ae278#32, 0xbdbdf21c#32]
def hb (i : Nat) : W32 := hbl.getD i 0#32
theorem hb_stps : ∀ i, i < 16 → stps 4 (BitVec.ofNat 32 i) = hb i := by decide +kernel
theorem stp_even {x : W32} (h : odd x = false) : stp x = x >>> 1 := by
  unfold stp; rw [h]; rfl
theorem stps4_shl (y : W32) : stps 4 (y >>> 4 <<< 4) = y >>> 4 := by
  have o : ∀ k, k < 4 → odd ((y >>> 4 <<< 4) >>> k) = false := by
    intro k hk
    unfold odd
    rw [BitVec.getLsbD_ushiftRight, BitVec.getLsbD_shiftLeft]
    simp
    intro h; omega
  have s1 : stp (y >>> 4 <<< 4) = (y >>> 4 <<< 4) >>> 1 := stp_even (by have := o 0 (by omega); simpa using this)
  have s2 : stp ((y >>> 4 <<< 4) >>> 1) = (y >>> 4 <<< 4) >>> 2 := by rw [stp_even (o 1 (by omega)), ← BitVec.shiftRight_add]
  have s3 : stp ((y >>> 4 <<< 4) >>> 2) = (y >>> 4 <<< 4) >>> 3 := by rw [stp_even (o 2 (by omega)), ← BitVec.shiftRight_add]
  have s4 : stp ((y >>> 4 <<< 4) >>> 3) = (y >>> 4 <<< 4) >>> 4 := by rw [stp_even (o 3 (by omega)), ← BitVec.shiftRight_add]
  show stp (stp (stp (stp (y >>> 4 <<< 4)))) = _
  rw [s1, s2, s3, s4]
  apply BitVec.eq_of_getLsbD_eq
  intro i hi
  rw [BitVec.getLsbD_ushiftRight, BitVec.getLsbD_shiftLeft, BitVec.getLsbD_ushiftRight, BitVec.getLsbD_ushiftRight]
  by_cases c : 4 + i < 32
  · simp [c]
  · rw [BitVec.getLsbD_of_ge y (4 + i) (by omega)]; simp [c]
theorem split4 (y : W32) : y = BitVec.ofNat 32 (y.toNat % 16) ^^^ (y >>> 4 <<< 4) := by
  have e : BitVec.ofNat 32 (y.toNat % 16) = y &&& 15#32 := by
    apply BitVec.eq_of_toNat_eq
    rw [BitVec.toNat_and, BitVec.toNat_ofNat]
    have h : (15#32 : W32).toNat = 2 ^ 4 - 1 := rfl
    rw [h, Nat.and_two_pow_sub_one_eq_mod]
    omega
  rw [e]
  have m : ∀ i, i < 32 → (15#32 : W32).getLsbD i = decide (i < 4) := by decide
  apply BitVec.eq_of_getLsbD_eq
  intro i hi
  rw [BitVec.getLsbD_xor, BitVec.getLsbD_and, BitVec.getLsbD_shiftLeft, BitVec.getLsbD_ushiftRight, m i hi]
  by_cases c : i < 4
  · simp [c]
  · simp [c, hi, show 4 + (i - 4) = i by omega]
def half (y : W32) : W32 := hb (y.toNat % 16) ^^^ y >>> 4
theorem half_stps (y : W32) : half y = stps 4 y := by
  have h : stps 4 y = stps 4 (BitVec.ofNat 32 (y.toNat % 16) ^^^ (y >>> 4 <<< 4)) := congrArg (stps 4) (split4 y)
  rw [h, stps_xor, hb_stps _ (Nat.mod_lt _ (by decide)), stps4_shl]
  rfl
theorem half_feed (x : W32) (b : UInt8) : half (half (x ^^^ X8 b)) = feed x b := by
  rw [half_stps, half_stps, ← stps_add]
  rfl
/- a text is fed: its first n bytes, as a function tells them -/
def feeds (x : W32) (f : Nat → UInt8) : Nat → W32
  | 0 => x
  | n + 1 => feed (feeds x f n) (f n)
def ones : W32 := 0xffffffff#32
def sumF (f : Nat → UInt8) (n : Nat) : W32 := ~~~feeds ones f n
theorem feeds_congr {f g : Nat → UInt8} {n : Nat} (h : ∀ i, i < n → f i = g i) (x : W32) : feeds x f n = feeds x g n := by
  induction n with
  | zero => rfl
  | succ k ih =>
    show feed _ _ = feed _ _
    rw [ih (fun i hi => h i (by omega)), h k (by omega)]
theorem sumF_congr {f g : Nat → UInt8} {n : Nat} (h : ∀ i, i < n → f i = g i) : sumF f n = sumF g n := by
  unfold sumF; rw [feeds_congr h]
theorem feeds_add (x : W32) (f g : Nat → UInt8) (n m : Nat) (h : ∀ i, i < m → f (n + i) = g i) : feeds x f (n + m) = feeds (feeds x f n) g m := by
  induction m with
  | zero => rfl
  | succ k ih =>
    show feed (feeds x f (n + k)) (f (n + k)) = feed _ _
    rw [ih (fun i hi => h i (by omega)), h k (by omega)]
theorem feed_xor (x d : W32) (b : UInt8) : feed (x ^^^ d) b = feed x b ^^^ stps 8 d := by
  unfold feed
  rw [← stps_xor, BitVec.xor_assoc, BitVec.xor_comm d, ← BitVec.xor_assoc]
theorem feeds_xor (x d : W32) (f : Nat → UInt8) (n : Nat) : feeds (x ^^^ d) f n = feeds x f n ^^^ stps (8 * n) d := by
  induction n with
  | zero => rfl
  | succ k ih =>
    show feed _ _ = feed _ _ ^^^ _
    rw [ih, feed_xor, ← stps_add, show 8 * (k + 1) = 8 + 8 * k by omega]
def zeros (x : W32) (n : Nat) : W32 := feeds x (fun _ => 0) n
theorem X8_zero : X8 0 = 0#32 := by decide
theorem zeros_stps (x : W32) (n : Nat) : zeros x n = stps (8 * n) x := by
  have h : ∀ n, feeds (0#32) (fun _ => 0) n = 0#32 := by
    intro n
    induction n with
    | zero => rfl
    | succ k ih =>
      show feed _ _ = _
      rw [ih]
      unfold feed
      rw [X8_zero, BitVec.xor_self, stps_zero]
  unfold zeros
  have e := feeds_xor (0#32) x (fun _ => 0) n
  rw [BitVec.zero_xor, h, BitVec.zero_xor] at e
  exact e
theorem not_xor (x : W32) : ~~~x = ones ^^^ x := by
  have e : ones = BitVec.allOnes 32 := by decide
  rw [e, BitVec.allOnes_xor]
theorem not_not' (x : W32) : ~~~(~~~x) = x := BitVec.not_not
/- sums that are joined -/
theorem join_sums (f g h : Nat → UInt8) (n m : Nat) (h1 : ∀ i, i < n → h i = f i) (h2 : ∀ i, i < m → h (n + i) = g i) :
    zeros (sumF f n) m ^^^ sumF g m = sumF h (n + m) := by
  unfold sumF
  rw [feeds_add ones h g n m h2, feeds_congr h1]
  have e : feeds ones f n = ones ^^^ ~~~feeds ones f n := by
    rw [not_xor, ← BitVec.xor_assoc, BitVec.xor_self, BitVec.zero_xor]
  have e2 : feeds (feeds ones f n) g m = feeds ones g m ^^^ stps (8 * m) (~~~feeds ones f n) := by
    rw [← feeds_xor, ← e]
  rw [e2, zeros_stps, not_xor (_ ^^^ _), not_xor (feeds ones g m), BitVec.xor_comm, BitVec.xor_assoc]
end Go.Proofs.YthjeinedplbnmaaDoor
