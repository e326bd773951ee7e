import Derived.Test.YtnfhnkplkbpmpaaDoorPa
namespace Go.Proofs.YtnfhnkplkbpmpaaDoor
/- the first state -/
def ivl : List W32 := [0x6a09e667#32, 0xbb67ae85#32, 0x3c6ef372#32, 0xa54ff53a#32, 0x510e527f#32, 0x9b05688c#32, 0x1f83d9ab#32, 0x5be0cd19#32]
def iv (i : Nat) : W32 := ivl.getD i 0#32
/- the state behind m blocks of a text -/
def stB (d : Nat → UInt8) : Nat → Nat → W32
  | 0 => iv
  | m + 1 => cmpr (stB d m) (fun i => d (64 * m + i))
/- how many blocks a text of n bytes is lengthened to; its bytes then -/
def nbl (n : Nat) : Nat := (n + 8) / 64 + 1
def lenByte (n j : Nat) : UInt8 := UInt8.ofNat (8 * n / 256 ^ (7 - j))
def pad (d : Nat → UInt8) (n i : Nat) : UInt8 :=
  if i < n then d i else if i = n then 0x80 else if i + 8 < 64 * nbl n then 0 else lenByte n (i + 8 - 64 * nbl n)
/- byte i of a state's words -/
def sByte (s : Nat → W32) (i : Nat) : UInt8 := UInt8.ofNat ((s (i / 4) >>> (24 - 8 * (i % 4))).toNat)
def dig (d : Nat → UInt8) (n : Nat) (i : Nat) : UInt8 := sByte (stB (pad d n) (nbl n)) i

theorem sByte_val (s : Nat → W32) (k m : Nat) (hm : m < 4) : U (s k) / 2 ^ (24 - 8 * m) % 256 = ((sByte s (4 * k + m)).toNat : Int) := by
  unfold sByte
  rw [show (4 * k + m) / 4 = k by omega, show (4 * k + m) % 4 = m by omega, U_shr, UInt8.toNat_ofNat']
  unfold U
  rw [Int.natCast_emod]; rfl
theorem sch_congr {d e : Nat → W32} (h : ∀ j, j < 16 → d j = e j) : ∀ n j, j < 16 + n → tab d n j = tab e n j := by
  intro n
  induction n with
  | zero => intro j hj; exact h j (by omega)
  | succ n ih =>
    intro j hj
    unfold tab
    by_cases e1 : j = 16 + n
    · rw [if_pos e1, if_pos e1, ih _ (by omega), ih _ (by omega), ih _ (by omega), ih _ (by omega)]
    · rw [if_neg e1, if_neg e1, ih _ (by omega)]
theorem rnds_congr {u v : Nat → W32} (s : St) : ∀ n, (∀ j, j < n → u j = v j) → rnds u s n = rnds v s n := by
  intro n
  induction n with
  | zero => intro _; rfl
  | succ n ih =>
    intro h
    unfold rnds
    rw [ih (fun j hj => h j (by omega))]
    unfold rnd Tt
    rw [h n (by omega)]
theorem cmpr_congr {s t : Nat → W32} {f g : Nat → UInt8} (hs : ∀ i, i < 8 → s i = t i) (hf : ∀ i, i < 64 → f i = g i) (i : Nat) (hi : i < 8) : cmpr s f i = cmpr t g i := by
  unfold cmpr
  have e1 : stOf s = stOf t := by
    unfold stOf
    rw [hs 0 (by omega), hs 1 (by omega), hs 2 (by omega), hs 3 (by omega), hs 4 (by omega), hs 5 (by omega), hs 6 (by omega), hs 7 (by omega)]
  have e2 : ∀ j, j < 64 → sch (wd f) j = sch (wd g) j := fun j hj => sch_congr (fun j hj => by
    unfold wd; rw [hf _ (by omega), hf _ (by omega), hf _ (by omega), hf _ (by omega)]) 48 j (by omega)
  rw [hs i hi, e1, rnds_congr _ 64 e2]
theorem stB_congr {d e : Nat → UInt8} (m : Nat) (h : ∀ i, i < 64 * m → d i = e i) (i : Nat) (hi : i < 8) : stB d m i = stB e m i := by
  induction m generalizing i with
  | zero => rfl
  | succ m ih =>
    exact cmpr_congr (fun j hj => ih (fun k hk => h k (by omega)) j hj) (fun j hj => h _ (by omega)) i hi
/- what the hash holds when n bytes of d were taken -/
def Inv (d : Nat → UInt8) (st : Nat → W32) (blk : Nat → UInt8) (n : Nat) : Prop :=
  (0 < n → ∀ i, i < 8 → st i = stB d (n / 64) i) ∧ ∀ i, i < n % 64 → blk i = d (64 * (n / 64) + i)
theorem Inv.congr {d e : Nat → UInt8} {st blk n} (h : Inv d st blk n) (hde : ∀ i, i < n → d i = e i) : Inv e st blk n :=
  ⟨fun h0 i hi => (h.1 h0 i hi).trans (stB_congr _ (fun k hk => hde k (by omega)) i hi), fun i hi => (h.2 i hi).trans (hde _ (by omega))⟩
theorem inv_start {d : Nat → UInt8} {st blk n} (h : Inv d st blk n) (i : Nat) (hi : i < 8) : (if n = 0 then iv else st) i = stB d (n / 64) i := by
  by_cases h0 : n = 0
  · subst h0; rfl
  · rw [if_neg h0]; exact h.1 (by omega) i hi
/- m bytes more, the block not yet whole -/
theorem inv_part {d : Nat → UInt8} {st blk n} (h : Inv d st blk n) (m : Nat) (b' : Nat → UInt8) (hm : n % 64 + m < 64) (hb : ∀ i, i < n % 64 + m → b' i = if i < n % 64 then blk i else d (64 * (n / 64) + i)) :
    Inv d (if n = 0 then iv else st) b' (n + m) := by
  have e1 : (n + m) / 64 = n / 64 := by omega
  have e2 : (n + m) % 64 = n % 64 + m := by omega
  refine ⟨fun _ i hi => by rw [e1]; exact inv_start h i hi, fun i hi => ?_⟩
  rw [e2] at hi
  rw [e1, hb i hi]
  by_cases c : i < n % 64
  · rw [if_pos c]; exact h.2 i c
  · rw [if_neg c]
theorem inv_full {d : Nat → UInt8} {st blk n} (h : Inv d st blk n) (m : Nat) (b' : Nat → UInt8) (hm : n % 64 + m = 64) (hb : ∀ i, i < 64 → b' i = if i < n % 64 then blk i else d (64 * (n / 64) + i)) :
    Inv d (cmpr (if n = 0 then iv else st) b') b' (n + m) := by
  have e1 : (n + m) / 64 = n / 64 + 1 := by omega
  have e2 : (n + m) % 64 = 0 := by omega
  refine ⟨fun _ i hi => ?_, fun i hi => by omega⟩
  rw [e1]
  refine cmpr_congr (fun j hj => inv_start h j hj) (fun j hj => ?_) i hi
  rw [hb j hj]
  by_cases c : j < n % 64
  · rw [if_pos c]; exact h.2 j c
  · rw [if_neg c]
theorem pad_lt {d : Nat → UInt8} {n i : Nat} (h : i < n) : pad d n i = d i := by unfold pad; rw [if_pos h]
/- how the text ends -/
def b1Of (blk : Nat → UInt8) (r i : Nat) : UInt8 := if i < r then blk i else if i = r then 0x80 else 0
def bLen (b : Nat → UInt8) (n k i : Nat) : UInt8 := if 56 ≤ i ∧ i < 56 + k then lenByte n (i - 56) else b i
theorem bLen_zero (b : Nat → UInt8) (n : Nat) : bLen b n 0 = b := funext fun i => by unfold bLen; rw [if_neg (by omega)]
theorem bLen_step (b : Nat → UInt8) (n k i : Nat) : (if i = 56 + k then lenByte n k else bLen b n k i) = bLen b n (k + 1) i := by
  unfold bLen
  by_cases c : i = 56 + k
  · rw [if_pos c, if_pos (by omega), show i - 56 = k by omega]
  · rw [if_neg c]
    by_cases c2 : 56 ≤ i ∧ i < 56 + k
    · rw [if_pos c2, if_pos (by omega)]
    · rw [if_neg c2, if_neg (by omega)]
theorem stB_pad {d : Nat → UInt8} {n : Nat} (i : Nat) (hi : i < 8) : stB (pad d n) (n / 64) i = stB d (n / 64) i :=
  stB_congr _ (fun k hk => pad_lt (by omega)) i hi
theorem fin_short {d : Nat → UInt8} {st blk n} (h : Inv d st blk n) (hr : n % 64 < 56) (i : Nat) (hi : i < 8) :
    cmpr (if n = 0 then iv else st) (bLen (b1Of blk (n % 64)) n 8) i = stB (pad d n) (nbl n) i := by
  have e : nbl n = n / 64 + 1 := by unfold nbl; omega
  rw [e]
  refine cmpr_congr (fun j hj => (inv_start h j hj).trans (stB_pad j hj).symm) (fun j hj => ?_) i hi
  unfold bLen b1Of pad
  rw [e]
  by_cases c : j < n % 64
  · rw [if_neg (by omega), if_pos c, if_pos (by omega), h.2 j c]
  · by_cases c2 : j = n % 64
    · rw [if_neg (by omega), if_neg c, if_pos c2, if_neg (by omega), if_pos (by omega)]
    · by_cases c3 : j < 56
      · rw [if_neg (by omega), if_neg c, if_neg c2, if_neg (by omega), if_neg (by omega), if_pos (by omega)]
      · rw [if_pos (by omega), if_neg (by omega), if_neg (by omega), if_neg (by omega), show 64 * (n / 64) + j + 8 - 64 * (n / 64 + 1) = j - 56 by omega]
theorem fin_long {d : Nat → UInt8} {st blk n} (h : Inv d st blk n) (hr : 56 ≤ n % 64) (i : Nat) (hi : i < 8) :
    cmpr (cmpr (if n = 0 then iv else st) (b1Of blk (n % 64))) (bLen (fun _ => 0) n 8) i = stB (pad d n) (nbl n) i := by
  have e : nbl n = n / 64 + 1 + 1 := by unfold nbl; omega
  rw [e]
  refine cmpr_congr (fun j hj => ?_) (fun j hj => ?_) i hi
  · refine cmpr_congr (fun j hj => (inv_start h j hj).trans (stB_pad j hj).symm) (fun j hj => ?_) j hj
    unfold b1Of pad
    rw [e]
    by_cases c : j < n % 64
    · rw [if_pos c, if_pos (by omega), h.2 j c]
    · by_cases c2 : j = n % 64
      · rw [if_neg c, if_pos c2, if_neg (by omega), if_pos (by omega)]
      · rw [if_neg c, if_neg c2, if_neg (by omega), if_neg (by omega), if_pos (by omega)]
  · unfold bLen pad
    rw [e]
    by_cases c3 : j < 56
    · rw [if_neg (by omega), if_neg (by omega), if_neg (by omega), if_pos (by omega)]
    · rw [if_pos (by omega), if_neg (by omega), if_neg (by omega), if_neg (by omega), show 64 * (n / 64 + 1) + j + 8 - 64 * (n / 64 + 1 + 1) = j - 56 by omega]
theorem lenByte_val (n k : Nat) (hk : k < 8) : (8 * (n : Int)) / 2 ^ (56 - 8 * k) % 256 = ((lenByte n k).toNat : Int) := by
  unfold lenByte
  rw [UInt8.toNat_ofNat', show 256 ^ (7 - k) = 2 ^ (56 - 8 * k) by rw [show 256 = 2 ^ 8 by rfl, ← Nat.pow_mul, show 8 * (7 - k) = 56 - 8 * k by omega]]
  rw [Int.natCast_emod, Int.natCast_ediv, Int.natCast_mul, Int.natCast_pow]; rfl
theorem sByte_congr {s t : Nat → W32} (h : ∀ i, i < 8 → s i = t i) (i : Nat) (hi : i < 32) : sByte s i = sByte t i := by
  unfold sByte; rw [h _ (by omega)]
theorem dig_congr {d e : Nat → UInt8} {n : Nat} (h : ∀ i, i < n → d i = e i) (i : Nat) (hi : i < 32) : dig d n i = dig e n i := by
  unfold dig sByte
  rw [stB_congr (nbl n) (d := pad d n) (e := pad e n) (fun k hk => by
    unfold pad
    by_cases c : k < n
    · rw [if_pos c, if_pos c, h k c]
    · rw [if_neg c, if_neg c]) (i / 4) (by omega)]
end Go.Proofs.YtnfhnkplkbpmpaaDoor
