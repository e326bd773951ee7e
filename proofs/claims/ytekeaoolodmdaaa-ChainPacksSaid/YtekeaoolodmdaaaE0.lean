import Derived.Test.YtekeaoolodmdaaaV0
import Derived.Test.YtekeaoolodmdaaaPam
/- Pieces, plainly: which are right, what they say, how they are written; the pieces that a text is told by. -/
namespace Go.Proofs.Ytekeaoolodmdaaa
open Go.RowKit
/- a piece: n bytes from p on, or, if both are 0, the bytes t -/
structure Pz where
  p : Nat
  n : Nat
  t : List UInt8
/- is it bytes? -/
def Pz.raw (x : Pz) : Prop := x.p = 0 ∧ x.n = 0
instance (x : Pz) : Decidable x.raw := inferInstanceAs (Decidable (_ ∧ _))
def good (b : Nat) (x : Pz) : Prop := if x.raw then 1 ≤ x.t.length ∧ x.t.length ≤ 4099 else x.t = [] ∧ 1 ≤ x.n ∧ x.n ≤ 4099 ∧ x.p + x.n ≤ b
instance (b : Nat) (x : Pz) : Decidable (good b x) := by unfold good; exact inferInstance
def sz (x : Pz) : Nat := if x.raw then x.t.length else x.n
def tz (B : List UInt8) (x : Pz) : List UInt8 := if x.raw then x.t else (B.drop x.p).take x.n
def wz (x : Pz) : List UInt8 := if x.raw then dg (2 * x.t.length) ++ x.t else dg (2 * x.n + 1) ++ dg x.p
def szs (l : List Pz) : Nat := (l.map sz).sum
def tzs (B : List UInt8) (l : List Pz) : List UInt8 := l.flatMap (tz B)
def wzs (l : List Pz) : List UInt8 := l.flatMap wz
theorem szs_snoc (l : List Pz) (x : Pz) : szs (l ++ [x]) = szs l + sz x := by simp [szs]
theorem szs_cons (l : List Pz) (x : Pz) : szs (x :: l) = sz x + szs l := by simp [szs]
theorem szs_append (l m : List Pz) : szs (l ++ m) = szs l + szs m := by simp [szs]
theorem tzs_snoc (B : List UInt8) (l : List Pz) (x : Pz) : tzs B (l ++ [x]) = tzs B l ++ tz B x := by simp [tzs]
theorem tzs_append (B : List UInt8) (l m : List Pz) : tzs B (l ++ m) = tzs B l ++ tzs B m := by simp [tzs]
theorem wzs_snoc (l : List Pz) (x : Pz) : wzs (l ++ [x]) = wzs l ++ wz x := by simp [wzs]
theorem wzs_cons (l : List Pz) (x : Pz) : wzs (x :: l) = wz x ++ wzs l := by simp [wzs]
theorem tz_len {b : Nat} {B : List UInt8} {x : Pz} (h : good b x) (hb : b = B.length) : (tz B x).length = sz x := by
  unfold good at h
  unfold tz sz
  split at h
  · rename_i hr; rw [if_pos hr, if_pos hr]
  · rename_i hr
    rw [if_neg hr, if_neg hr, List.length_take, List.length_drop]; omega
theorem tzs_len {b : Nat} {B : List UInt8} {l : List Pz} (h : ∀ x ∈ l, good b x) (hb : b = B.length) : (tzs B l).length = szs l := by
  induction l with
  | nil => rfl
  | cons x l ih =>
    rw [szs_cons, ← ih (fun y hy => h y (by simp [hy])), ← tz_len (h x (by simp)) hb]
    simp [tzs]
theorem sz_le {b : Nat} {x : Pz} (h : good b x) : 1 ≤ sz x ∧ sz x ≤ 4099 := by
  unfold good at h
  unfold sz
  split at h
  · rename_i hr; rw [if_pos hr]; exact h
  · rename_i hr; rw [if_neg hr]; omega
theorem szs_ge {b : Nat} {l : List Pz} (h : ∀ x ∈ l, good b x) : l.length ≤ szs l := by
  induction l with
  | nil => simp
  | cons x l ih =>
    rw [szs_cons, List.length_cons]
    have h1 := ih (fun y hy => h y (by simp [hy]))
    have h2 := sz_le (h x (by simp))
    omega
theorem szs_take_le (l : List Pz) (k : Nat) : szs (l.take k) ≤ szs l := by
  have h := szs_append (l.take k) (l.drop k)
  rw [List.take_append_drop] at h
  omega
theorem take_next {α : Type} (l : List α) (d : α) (k : Nat) (h : k < l.length) : l.take (k + 1) = l.take k ++ [l.getD k d] := by
  rw [List.take_succ_eq_append_getElem h, List.getD_eq_getElem?_getD, List.getElem?_eq_getElem h]; rfl
theorem getD_mem {α : Type} (l : List α) (d : α) (k : Nat) (h : k < l.length) : l.getD k d ∈ l := by
  rw [List.getD_eq_getElem?_getD, List.getElem?_eq_getElem h]
  exact List.getElem_mem h
/- a piece of bytes, if there are any -/
def rw' (t : List UInt8) : List Pz := if t = [] then [] else [⟨0, 0, t⟩]
/- the pieces from a place on; of those told last not all bytes are told -/
def mk (F : Nat → Nat × Nat) (s : List UInt8) (at_ told : Nat) : List Pz :=
  if _h : at_ < s.length then
    if _hn : (F at_).2 = 0 then mk F s (at_ + 1) told
    else rw' ((s.drop told).take (at_ - told)) ++ [⟨(F at_).1, (F at_).2, []⟩] ++ mk F s (at_ + (F at_).2) (at_ + (F at_).2)
  else rw' (s.drop told)
termination_by s.length - at_
decreasing_by all_goals omega
theorem mk_end {F : Nat → Nat × Nat} {s : List UInt8} {at_ told : Nat} (h : s.length ≤ at_) : mk F s at_ told = rw' (s.drop told) := by
  rw [mk, dif_neg (by omega)]
theorem mk_none {F : Nat → Nat × Nat} {s : List UInt8} {at_ told : Nat} (h : at_ < s.length) (hn : (F at_).2 = 0) : mk F s at_ told = mk F s (at_ + 1) told := by
  rw [mk, dif_pos h, dif_pos hn]
theorem mk_copy {F : Nat → Nat × Nat} {s : List UInt8} {at_ told : Nat} (h : at_ < s.length) (hn : (F at_).2 ≠ 0) : mk F s at_ told = rw' ((s.drop told).take (at_ - told)) ++ [⟨(F at_).1, (F at_).2, []⟩] ++ mk F s (at_ + (F at_).2) (at_ + (F at_).2) := by
  rw [mk, dif_pos h, dif_neg hn]
/- what is found is there -/
def Fok (B s : List UInt8) (F : Nat → Nat × Nat) : Prop :=
  ∀ at_, at_ < s.length → (F at_).2 = 0 ∨ ((F at_).1 + (F at_).2 ≤ B.length ∧ at_ + (F at_).2 ≤ s.length ∧ (B.drop (F at_).1).take (F at_).2 = (s.drop at_).take (F at_).2)
theorem rw_good {b : Nat} {t : List UInt8} (h : t.length ≤ 4099) : ∀ x ∈ rw' t, good b x := by
  intro x hx
  unfold rw' at hx
  split at hx
  · simp at hx
  · rename_i ht
    simp only [List.mem_singleton] at hx
    subst hx
    unfold good
    rw [if_pos ⟨rfl, rfl⟩]
    refine ⟨?_, h⟩
    cases t with
    | nil => exact absurd rfl ht
    | cons => simp
theorem rw_tzs (B t : List UInt8) : tzs B (rw' t) = t := by
  unfold rw'
  split
  · rename_i h; rw [h]; rfl
  · simp [tzs, tz, Pz.raw]
theorem rw_szs (t : List UInt8) : szs (rw' t) = t.length := by
  unfold rw'
  split
  · rename_i h; rw [h]; rfl
  · simp [szs, sz, Pz.raw]
theorem mk_good {B s : List UInt8} {F : Nat → Nat × Nat} (hF : Fok B s F) (hB : B.length ≤ 4099) (hs : s.length ≤ 4099) : ∀ (k at_ told : Nat), s.length - at_ ≤ k → told ≤ at_ → at_ ≤ s.length → (∀ x ∈ mk F s at_ told, good B.length x) ∧ tzs B (mk F s at_ told) = s.drop told := by
  intro k
  induction k with
  | zero =>
    intro at_ told h1 h2 h3
    rw [mk_end (by omega)]
    exact ⟨rw_good (by rw [List.length_drop]; omega), rw_tzs _ _⟩
  | succ k ih =>
    intro at_ told h1 h2 h3
    by_cases hl : at_ < s.length
    · by_cases hn : (F at_).2 = 0
      · rw [mk_none hl hn]
        exact ih _ _ (by omega) (by omega) (by omega)
      · rw [mk_copy hl hn]
        rcases hF at_ hl with h | ⟨g1, g2, g3⟩
        · exact absurd h hn
        obtain ⟨i1, i2⟩ := ih (at_ + (F at_).2) (at_ + (F at_).2) (by omega) (Nat.le_refl _) (by omega)
        have hr : ¬ Pz.raw ⟨(F at_).1, (F at_).2, []⟩ := fun h => hn h.2
        refine ⟨fun x hx => ?_, ?_⟩
        · rw [List.append_assoc, List.mem_append, List.mem_append] at hx
          rcases hx with hx | hx | hx
          · exact rw_good (by rw [List.length_take, List.length_drop]; omega) x hx
          · simp only [List.mem_singleton] at hx
            subst hx
            unfold good
            rw [if_neg hr]
            exact ⟨rfl, by show 1 ≤ (F at_).2; omega, by show (F at_).2 ≤ 4099; omega, g1⟩
          · exact i1 x hx
        · rw [tzs_append, tzs_append, rw_tzs, i2]
          have e : tzs B [⟨(F at_).1, (F at_).2, []⟩] = (s.drop at_).take (F at_).2 := by
            rw [← g3]
            simp [tzs, tz, hr]
          rw [e]
          have e2 : s.drop told = (s.drop told).take (at_ - told) ++ s.drop at_ := by
            have := List.take_append_drop (at_ - told) (s.drop told)
            rw [List.drop_drop, show told + (at_ - told) = at_ by omega] at this
            exact this.symm
          have e3 : s.drop at_ = (s.drop at_).take (F at_).2 ++ s.drop (at_ + (F at_).2) := by
            have := List.take_append_drop (F at_).2 (s.drop at_)
            rw [List.drop_drop] at this
            exact this.symm
          rw [List.append_assoc, ← e3, ← e2]
    · rw [mk_end (by omega)]
      exact ⟨rw_good (by rw [List.length_drop]; omega), rw_tzs _ _⟩
end Go.Proofs.Ytekeaoolodmdaaa
