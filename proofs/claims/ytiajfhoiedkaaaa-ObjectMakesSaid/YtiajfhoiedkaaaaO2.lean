import Derived.Test.YtiajfhoiedkaaaaO1
import Derived.Lib.Bytealg
/- The order of names. -/
namespace Go.Proofs.Ytiajfhoiedkaaaa
open Go.Op
theorem toList_bs (l : List UInt8) : (bs l).toList = l := by
  rw [Lib.toList_data]; simp [bs]
theorem bl_irrefl : ∀ a : List UInt8, bytesLess a a = false
  | [] => by unfold bytesLess; rfl
  | a :: x => by
    unfold bytesLess
    rw [bl_irrefl x]
    simp [UInt8.lt_irrefl]
theorem bl_cons (a b : UInt8) (x y : List UInt8) : bytesLess (a :: x) (b :: y) = true ↔ a < b ∨ (a = b ∧ bytesLess x y = true) := by
  conv => lhs; unfold bytesLess
  simp
theorem bl_nil (x : List UInt8) : bytesLess x [] = false := by unfold bytesLess; rfl
theorem bl_nil_cons (b : UInt8) (y : List UInt8) : bytesLess [] (b :: y) = true := by unfold bytesLess; rfl
theorem bl_trans : ∀ (a b c : List UInt8), bytesLess a b = true → bytesLess b c = true → bytesLess a c = true
  | _, [], _, h, _ => by rw [bl_nil] at h; cases h
  | _, _ :: _, [], _, h => by rw [bl_nil] at h; cases h
  | [], _ :: _, _ :: _, _, _ => bl_nil_cons _ _
  | a :: x, b :: y, c :: z, h1, h2 => by
    rw [bl_cons] at *
    rcases h1 with h1 | ⟨rfl, h1⟩
    · rcases h2 with h2 | ⟨rfl, h2⟩
      · exact Or.inl (UInt8.lt_trans h1 h2)
      · exact Or.inl h1
    · rcases h2 with h2 | ⟨rfl, h2⟩
      · exact Or.inl h2
      · exact Or.inr ⟨rfl, bl_trans x y z h1 h2⟩
theorem bl_tri : ∀ (a b : List UInt8), bytesLess a b = false → bytesLess b a = false → a = b
  | [], [], _, _ => rfl
  | [], _ :: _, h, _ => by rw [bl_nil_cons] at h; cases h
  | _ :: _, [], _, h => by rw [bl_nil_cons] at h; cases h
  | a :: x, b :: y, h1, h2 => by
    have n1 : ¬ (a < b ∨ (a = b ∧ bytesLess x y = true)) := fun h => by rw [(bl_cons a b x y).2 h] at h1; cases h1
    have n2 : ¬ (b < a ∨ (b = a ∧ bytesLess y x = true)) := fun h => by rw [(bl_cons b a y x).2 h] at h2; cases h2
    have e : a = b := by
      rcases UInt8.lt_or_eq_of_le (UInt8.not_lt.1 fun h => n1 (Or.inl h)) with h | h
      · exact absurd (Or.inl h) n2
      · exact h.symm
    subst e
    have e2 : x = y := bl_tri x y (by cases c : bytesLess x y; rfl; exact absurd (Or.inr ⟨rfl, c⟩) n1) (by cases c : bytesLess y x; rfl; exact absurd (Or.inr ⟨rfl, c⟩) n2)
    rw [e2]
theorem bl_asymm (a b : List UInt8) (h : bytesLess a b = true) : bytesLess b a = false := by
  cases c : bytesLess b a
  · rfl
  · have := bl_trans a b a h c
    rw [bl_irrefl] at this
    cases this
/- what strings.Compare tells -/
theorem cmp_less : ∀ (a b : List UInt8), decide (Lib.compareBytes a b < 0) = bytesLess a b
  | [], [] => by rw [bl_nil]; rfl
  | [], _ :: _ => by rw [bl_nil_cons]; rfl
  | _ :: _, [] => by rw [bl_nil]; rfl
  | a :: x, b :: y => by
    have ih := cmp_less x y
    apply Bool.eq_iff_iff.2
    rw [bl_cons]
    unfold Lib.compareBytes
    by_cases h1 : a < b
    · rw [if_pos h1]; simp [h1]
    · rw [if_neg h1]
      by_cases h2 : b < a
      · rw [if_pos h2]
        have : ¬ a = b := fun e => by subst e; exact UInt8.lt_irrefl _ h2
        simp [h1, this]
      · rw [if_neg h2, ih]
        have e : a = b := by
          rcases UInt8.lt_or_eq_of_le (UInt8.not_lt.1 h1) with h | h
          · exact absurd h h2
          · exact h.symm
        simp [e, h1, UInt8.lt_irrefl]
end Go.Proofs.Ytiajfhoiedkaaaa
