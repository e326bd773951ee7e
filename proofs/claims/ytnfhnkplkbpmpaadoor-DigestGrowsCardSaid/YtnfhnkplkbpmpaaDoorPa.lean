import Derived.Laws.BitsAllLaws
import Derived.Laws.Shifts
namespace Go.Proofs.YtnfhnkplkbpmpaaDoor
/- plain mathematics: 32-bit words -/
abbrev W32 := BitVec 32
def U (x : W32) : Int := (x.toNat : Int)
def rr (x : W32) (n : Nat) : W32 := x <<< (32 - n) ||| x >>> n
def sS0 (x : W32) : W32 := rr x 7 ^^^ rr x 18 ^^^ x >>> 3
def sS1 (x : W32) : W32 := rr x 17 ^^^ rr x 19 ^^^ x >>> 10
def bS0 (x : W32) : W32 := rr x 2 ^^^ rr x 13 ^^^ rr x 22
def bS1 (x : W32) : W32 := rr x 6 ^^^ rr x 11 ^^^ rr x 25

theorem U_ge (x : W32) : 0 ≤ U x := by unfold U; omega
theorem U_lt (x : W32) : U x < 4294967296 := by unfold U; have := x.isLt; omega
theorem U_xor (x y : W32) : bits .xor .u32 (U x) (U y) = U (x ^^^ y) := by
  unfold U; rw [u32_xor_nat _ _ (by have := x.isLt; omega) (by have := y.isLt; omega), BitVec.toNat_xor]
theorem U_and (x y : W32) : bits .and .u32 (U x) (U y) = U (x &&& y) := by
  unfold U; rw [u32_and_nat _ _ (by have := x.isLt; omega) (by have := y.isLt; omega), BitVec.toNat_and]
theorem U_or (x y : W32) : bits .or .u32 (U x) (U y) = U (x ||| y) := by
  unfold U; rw [u32_or_nat _ _ (by have := x.isLt; omega) (by have := y.isLt; omega), BitVec.toNat_or]
theorem U_add (x y : W32) : IntKind.u32.wrap (U x + U y) = U (x + y) := by
  unfold U; rw [IntKind.wrap_u32', BitVec.toNat_add]; omega
theorem U_addm (x y : W32) : (U x + U y) % 4294967296 = U (x + y) := by
  unfold U; rw [BitVec.toNat_add]; omega
theorem U_shl (x : W32) (n : Nat) : IntKind.u32.wrap (U x * 2 ^ n) = U (x <<< n) := by
  unfold U; rw [IntKind.wrap_u32', BitVec.toNat_shiftLeft, Nat.shiftLeft_eq, Int.natCast_emod, Int.natCast_mul, Int.natCast_pow]; rfl
theorem U_shr (x : W32) (n : Nat) : U x / 2 ^ n = U (x >>> n) := by
  unfold U; rw [BitVec.toNat_ushiftRight, Nat.shiftRight_eq_div_pow, Int.natCast_ediv, Int.natCast_pow]; rfl
theorem U_shr3 (x : W32) : U x / (8 : Int) = U (x >>> 3) := U_shr x 3
theorem U_shr10 (x : W32) : U x / (1024 : Int) = U (x >>> 10) := U_shr x 10
theorem U_xor10 (a x : W32) : bits .xor .u32 (U a) (U x / (1024 : Int)) = U (a ^^^ x >>> 10) := by rw [U_shr10, U_xor]
theorem U_xor3 (a x : W32) : bits .xor .u32 (U a) (U x / (8 : Int)) = U (a ^^^ x >>> 3) := by rw [U_shr3, U_xor]
theorem U_shlm (x : W32) (n : Nat) : (U x <<< n) % 4294967296 = U (x <<< n) := by
  rw [Int.shiftLeft_eq, ← U_shl, IntKind.wrap_u32']
theorem U_shrm (x : W32) (n : Nat) : (U x >>> n) = U (x >>> n) := by
  rw [Int.shiftRight_eq_div_pow, ← U_shr, Int.natCast_pow]; rfl
/- a block's words -/
def X8 (b : UInt8) : W32 := b.toBitVec.setWidth 32
def wd (f : Nat → UInt8) (j : Nat) : W32 := X8 (f (4 * j)) <<< 24 ||| X8 (f (4 * j + 1)) <<< 16 ||| X8 (f (4 * j + 2)) <<< 8 ||| X8 (f (4 * j + 3))
theorem U_X8 (b : UInt8) : ((b.toNat : Nat) : Int) = U (X8 b) := by
  unfold U X8
  rw [BitVec.toNat_setWidth]
  have := b.toNat_lt
  show ((b.toBitVec.toNat : Nat) : Int) = _
  have h2 : b.toBitVec.toNat = b.toNat := rfl
  rw [h2, Nat.mod_eq_of_lt (by omega)]
theorem U_w8 (b : UInt8) : IntKind.u32.wrap ((b.toNat : Nat) : Int) = U (X8 b) := by
  rw [U_X8, IntKind.wrap_u32']; have := U_ge (X8 b); have := U_lt (X8 b); omega
theorem U_shl24 (x : W32) : IntKind.u32.wrap (U x * (16777216 : Int)) = U (x <<< 24) := U_shl x 24
theorem U_shl16 (x : W32) : IntKind.u32.wrap (U x * (65536 : Int)) = U (x <<< 16) := U_shl x 16
theorem U_shl8 (x : W32) : IntKind.u32.wrap (U x * (256 : Int)) = U (x <<< 8) := U_shl x 8
/- the words that follow: one more at each step -/
def tab (d : Nat → W32) : Nat → Nat → W32
  | 0 => d
  | n + 1 => fun j => if j = 16 + n then sS1 (tab d n (14 + n)) + tab d n (9 + n) + sS0 (tab d n (1 + n)) + tab d n n else tab d n j
def sch (d : Nat → W32) : Nat → W32 := tab d 48
theorem tab_step (d g : Nat → W32) (k : Nat) (h16 : 16 ≤ k) (hg : ∀ j, j < k → g j = tab d (k - 16) j) :
    ∀ j, j < k + 1 → (if j = k then sS1 (g (k - 2)) + g (k - 7) + sS0 (g (k - 15)) + g (k - 16) else g j) = tab d (k + 1 - 16) j := by
  obtain ⟨n, rfl⟩ : ∃ n, k = 16 + n := ⟨k - 16, by omega⟩
  intro j hj
  rw [show 16 + n + 1 - 16 = n + 1 by omega]
  rw [show 16 + n - 16 = n by omega] at *
  unfold tab
  by_cases e : j = 16 + n
  · rw [if_pos e, if_pos e, hg _ (by omega), hg _ (by omega), hg _ (by omega), hg _ (by omega), show 16 + n - 2 = 14 + n by omega, show 16 + n - 7 = 9 + n by omega, show 16 + n - 15 = 1 + n by omega]
  · rw [if_neg e, if_neg e, hg _ (by omega)]
/- a round, and all of them -/
def kl : List W32 := [0x428a2f98#32, 0x71374491#32, 0xb5c0fbcf#32, 0xe9b5dba5#32, 0x3956c25b#32, 0x59f111f1#32, 0x923f82a4#32, 0xab1c5ed5#32, 0xd807aa98#32, 0x12835b01#32, 0x243185be#32, 0x550c7dc3#32, 0x72be5d74#32, 0x80deb1fe#32, 0x9bdc06a7#32, 0xc19bf174#32, 0xe49b69c1#32, 0xefbe4786#32, 0x0fc19dc6#32, 0x240ca1cc#32, 0x2de92c6f#32, 0x4a7484aa#32, 0x5cb0a9dc#32, 0x76f988da#32, 0x983e5152#32, 0xa831c66d#32, 0xb00327c8#32, 0xbf597fc7#32, 0xc6e00bf3#32, 0xd5a79147#32, 0x06ca6351#32, 0x14292967#32, 0x27b70a85#32, 0x2e1b2138#32, 0x4d2c6dfc#32, 0x53380d13#32, 0x650a7354#32, 0x766a0abb#32, 0x81c2c92e#32, 0x92722c85#32, 0xa2bfe8a1#32, 0xa81a664b#32, 0xc24b8b70#32, 0xc76c51a3#32, 0xd192e819#32, 0xd6990624#32, 0xf40e3585#32, 0x106aa070#32, 0x19a4c116#32, 0x1e376c08#32, 0x2748774c#32, 0x34b0bcb5#32, 0x391c0cb3#32, 0x4ed8aa4a#32, 0x5b9cca4f#32, 0x682e6ff3#32, 0x748f82ee#32, 0x78a5636f#32, 0x84c87814#32, 0x8cc70208#32, 0x90befffa#32, 0xa4506ceb#32, 0xbef9a3f7#32, 0xc67178f2#32]
def kk (i : Nat) : W32 := kl.getD i 0#32
structure St where
  a : W32
  b : W32
  c : W32
  d : W32
  e : W32
  f : W32
  g : W32
  h : W32
def Tt (ws : Nat → W32) (i : Nat) (s : St) : W32 := s.h + bS1 s.e + (s.e &&& s.f ^^^ ~~~s.e &&& s.g) + kk i + ws i
def Uu (s : St) : W32 := bS0 s.a + (s.a &&& s.b ^^^ s.a &&& s.c ^^^ s.b &&& s.c)
def rnd (ws : Nat → W32) (i : Nat) (s : St) : St := ⟨Tt ws i s + Uu s, s.a, s.b, s.c, s.d + Tt ws i s, s.e, s.f, s.g⟩
def rnds (ws : Nat → W32) (s : St) : Nat → St
  | 0 => s
  | n + 1 => rnd ws n (rnds ws s n)
/- the state as a function -/
def stOf (f : Nat → W32) : St := ⟨f 0, f 1, f 2, f 3, f 4, f 5, f 6, f 7⟩
def ofSt (s : St) (i : Nat) : W32 := match i with
  | 0 => s.a | 1 => s.b | 2 => s.c | 3 => s.d | 4 => s.e | 5 => s.f | 6 => s.g | _ => s.h
def cmpr (f : Nat → W32) (blk : Nat → UInt8) (i : Nat) : W32 := f i + ofSt (rnds (sch (wd blk)) (stOf f) 64) i
theorem U_not (x : W32) : bits .xor .u32 (if IntKind.u32.signed = true then -1 else IntKind.u32.max) (U x) = U (~~~x) := by
  have e : (if IntKind.u32.signed = true then (-1 : Int) else IntKind.u32.max) = U (BitVec.allOnes 32) := by rfl
  rw [e, U_xor]
  congr 1
theorem neg_and31 : ∀ n : Nat, n < 32 → 0 < n → bits .and .u64 (IntKind.u64.wrap (-(n : Int))) 31 = ((32 - n : Nat) : Int) := by decide +kernel
end Go.Proofs.YtnfhnkplkbpmpaaDoor
