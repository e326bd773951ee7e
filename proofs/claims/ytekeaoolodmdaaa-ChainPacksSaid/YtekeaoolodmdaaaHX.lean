import Derived.Test.YtekeaoolodmdaaaHR
import Derived.Test.YtekeaoolodmdaaaHL
import Derived.Test.YtekeaoolodmdaaaHV
import Derived.Test.YtekeaoolodmdaaaEI
/- The reference's parts made of texts. -/
namespace Go.Proofs.Ytekeaoolodmdaaa
set_option maxRecDepth 100000
open Go.RowKit
/- the reference looks at the base's place alone, and makes the delta whatever the depth -/
theorem packP_eq {T : List (List UInt8)} {l : List Pt} (h : PI T l) (h2 : l.length ≤ 200) (b : Int) (s : List UInt8) :
    packP l T b s = if 0 ≤ b ∧ b < l.length then (if ((qwayR l b).1.length : Int) - 1 < 4 ∧ (dBy T b s).length < s.length then ⟨true, b, dBy T b s⟩ else ⟨false, 0, s⟩) else ⟨false, 0, s⟩ := by
  by_cases c : 0 ≤ b ∧ b < l.length
  · rw [if_pos c]
    obtain ⟨n, rfl⟩ : ∃ n : Nat, b = (n : Int) := ⟨b.toNat, by omega⟩
    have hw := h.way h2 (k := n) (by omega)
    have hq : qwayR l (n : Int) = wayR l (n : Int) := by
      have e1 : qwayR l (n : Int) = ql l 5 n := by unfold qwayR; rw [if_neg (by omega)]; rfl
      have e2 : wayR l (n : Int) = al l 5 n := by unfold wayR; rw [if_neg (by omega)]; rfl
      rw [e1, e2]
      refine ql_al 4 n fun j hj => ?_
      have hw' := h.way h2 (k := j) (by omega)
      obtain ⟨_, _, _, w1, w2, _⟩ := wayR_way hw'
      have h1 := w1.lt 0 w1.pos
      cases hp : (wayR l (j : Int)).1 with
      | nil => rw [hp] at w2; simp at w2
      | cons a r =>
        rw [hp] at h1 w2
        simp only [List.head?_cons, Option.some.injEq, Int.toNat_natCast] at w2
        subst w2
        exact h1.2
    unfold packP dpart
    have hd : depthR l (n : Int) = (((wayR l (n : Int)).1.length : Int) - 1, 0) := by unfold depthR; rw [if_pos hw]
    rw [hd, hq]
    dsimp only
    by_cases c2 : ((wayR l (n : Int)).1.length : Int) - 1 < 4 ∧ (dBy T (n : Int) s).length < s.length
    · rw [if_pos ⟨rfl, c2.1, c2.2⟩, if_pos c2]; rfl
    · rw [if_neg (fun h => c2 ⟨h.2.1, h.2.2⟩), if_neg c2]; rfl
  · rw [if_neg c]
    have hd : (depthR l b).2 ≠ 0 := by
      have e : wayR l b = ([], 1) := by unfold wayR; rw [if_pos (by omega)]
      unfold depthR
      rw [e]
      decide
    unfold packP dpart
    rw [if_neg (fun h => hd h.1)]
    rfl
theorem packL_PI' {T : List (List UInt8)} {Bs : List Int} (hT : ∀ x ∈ T, x.length ≤ 4099) (h2 : T.length ≤ 200) {i : Nat} (hi : i ≤ T.length) : PI T (packL T Bs i) := packL_PI hT h2 i hi
end Go.Proofs.Ytekeaoolodmdaaa
