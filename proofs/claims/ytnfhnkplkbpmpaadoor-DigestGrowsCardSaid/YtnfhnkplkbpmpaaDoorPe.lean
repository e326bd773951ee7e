import Derived.Test.YtnfhnkplkbpmpaaDoorPd
namespace Go.Proofs.YtnfhnkplkbpmpaaDoor
/- ids as text -/
def dgt (n : Nat) : UInt8 := if n < 10 then UInt8.ofNat (48 + n) else UInt8.ofNat (87 + n)
def hexAt (f : Nat → UInt8) (i : Nat) : UInt8 := if i % 2 = 0 then dgt ((f (i / 2)).toNat / 16) else dgt ((f (i / 2)).toNat % 16)
def hexL (f : Nat → UInt8) : Nat → List UInt8
  | 0 => []
  | k + 1 => hexL f k ++ [dgt ((f k).toNat / 16), dgt ((f k).toNat % 16)]
theorem hexL_length (f : Nat → UInt8) (k : Nat) : (hexL f k).length = 2 * k := by
  induction k with
  | zero => rfl
  | succ k ih => simp [hexL, ih]; omega
theorem hexL_get (f : Nat → UInt8) (k i : Nat) (h : i < 2 * k) : (hexL f k)[i]? = some (hexAt f i) := by
  induction k with
  | zero => omega
  | succ k ih =>
    unfold hexL
    by_cases c : i < 2 * k
    · rw [List.getElem?_append_left (by rw [hexL_length]; exact c)]
      exact ih c
    · rw [List.getElem?_append_right (by rw [hexL_length]; omega), hexL_length]
      by_cases e : i = 2 * k
      · subst e
        rw [Nat.sub_self]
        unfold hexAt
        rw [if_pos (by omega), show 2 * k / 2 = k by omega]; rfl
      · have e2 : i = 2 * k + 1 := by omega
        subst e2
        rw [show 2 * k + 1 - 2 * k = 1 by omega]
        unfold hexAt
        rw [if_neg (by omega), show (2 * k + 1) / 2 = k by omega]; rfl
/- a digit's half byte -/
def hok (c : UInt8) : Bool := (48 ≤ c.toNat && c.toNat ≤ 57) || (97 ≤ c.toNat && c.toNat ≤ 102)
def hx (c : UInt8) : Nat := if 48 ≤ c.toNat ∧ c.toNat ≤ 57 then c.toNat - 48 else if 97 ≤ c.toNat ∧ c.toNat ≤ 102 then c.toNat - 87 else 0
theorem hx_lt (c : UInt8) : hx c < 16 := by unfold hx; split <;> (try split) <;> omega
theorem hx_dgt : ∀ n, n < 16 → hx (dgt n) = n ∧ hok (dgt n) = true := by decide +kernel
theorem dgt_hx (c : UInt8) (h : hok c = true) : dgt (hx c) = c := by
  unfold hok at h
  simp only [Bool.or_eq_true, Bool.and_eq_true, decide_eq_true_eq] at h
  rcases h with ⟨h1, h2⟩ | ⟨h1, h2⟩
  · have e : hx c = c.toNat - 48 := by unfold hx; rw [if_pos ⟨h1, h2⟩]
    rw [e]; unfold dgt
    rw [if_pos (by omega), show 48 + (c.toNat - 48) = c.toNat by omega, UInt8.ofNat_toNat]
  · have e : hx c = c.toNat - 87 := by unfold hx; rw [if_neg (by omega), if_pos ⟨h1, h2⟩]
    rw [e]; unfold dgt
    rw [if_neg (by omega), show 87 + (c.toNat - 87) = c.toNat by omega, UInt8.ofNat_toNat]
theorem or_half : ∀ a, a < 16 → ∀ b, b < 16 → bits .or .u8 (IntKind.u8.wrap ((a : Nat) * 16 : Int)) ((b : Nat) : Int) = ((a * 16 + b : Nat) : Int) := by decide +kernel
theorem or_half2 : ∀ a, a < 16 → ∀ b, b < 16 → bits .or .u8 ((a : Nat) * 16 : Int) ((b : Nat) : Int) = ((a * 16 + b : Nat) : Int) := by decide +kernel
theorem and15 : ∀ a, a < 256 → bits .and .u8 ((a : Nat) : Int) 15 = ((a % 16 : Nat) : Int) := by decide +kernel
/- the text's id -/
def unhexAt (s : Nat → UInt8) (k : Nat) : UInt8 := UInt8.ofNat (hx (s (2 * k)) * 16 + hx (s (2 * k + 1)))
theorem unhexAt_nat (s : Nat → UInt8) (k : Nat) : (unhexAt s k).toNat = hx (s (2 * k)) * 16 + hx (s (2 * k + 1)) := by
  unfold unhexAt
  have h1 := hx_lt (s (2 * k))
  have h2 := hx_lt (s (2 * k + 1))
  rw [UInt8.toNat_ofNat']; omega
def okF (s : Nat → UInt8) (k : Nat) : Bool := (List.range (2 * k)).all fun i => hok (s i)
theorem okF_iff (s : Nat → UInt8) (k : Nat) : okF s k = true ↔ ∀ i, i < 2 * k → hok (s i) = true := by
  unfold okF; simp
theorem hexAt_unhex (s : Nat → UInt8) (i : Nat) (h : hok (s i) = true) : hexAt (unhexAt s) i = s i := by
  unfold hexAt
  by_cases c : i % 2 = 0
  · rw [if_pos c, unhexAt_nat, show (hx (s (2 * (i / 2))) * 16 + hx (s (2 * (i / 2) + 1))) / 16 = hx (s (2 * (i / 2))) by have := hx_lt (s (2 * (i / 2) + 1)); omega, show 2 * (i / 2) = i by omega, dgt_hx _ h]
  · rw [if_neg c, unhexAt_nat, show (hx (s (2 * (i / 2))) * 16 + hx (s (2 * (i / 2) + 1))) % 16 = hx (s (2 * (i / 2) + 1)) by have := hx_lt (s (2 * (i / 2) + 1)); omega, show 2 * (i / 2) + 1 = i by omega, dgt_hx _ h]
theorem unhex_hex (f : Nat → UInt8) (k : Nat) : unhexAt (hexAt f) k = f k := by
  apply UInt8.toNat_inj.1
  rw [unhexAt_nat]
  have hlt := (f k).toNat_lt
  have e1 : hexAt f (2 * k) = dgt ((f k).toNat / 16) := by unfold hexAt; rw [if_pos (by omega), show 2 * k / 2 = k by omega]
  have e2 : hexAt f (2 * k + 1) = dgt ((f k).toNat % 16) := by unfold hexAt; rw [if_neg (by omega), show (2 * k + 1) / 2 = k by omega]
  rw [e1, e2, (hx_dgt _ (by omega)).1, (hx_dgt _ (by omega)).1]; omega
theorem hok_hex (f : Nat → UInt8) (i : Nat) : hok (hexAt f i) = true := by
  unfold hexAt
  have hlt := (f (i / 2)).toNat_lt
  split
  · exact (hx_dgt _ (by omega)).2
  · exact (hx_dgt _ (by omega)).2
end Go.Proofs.YtnfhnkplkbpmpaaDoor
