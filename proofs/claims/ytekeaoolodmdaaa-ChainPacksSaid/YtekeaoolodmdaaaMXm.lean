import Derived.Test.YtekeaoolodmdaaaMX4m
/- Places of windows, alike pieces, the longest one: plain mathematics. -/
namespace Go.Proofs.Ytekeaoolodmdaaa.Mt
set_option maxRecDepth 100000
/- a window's number -/
def num (f : Nat → UInt8) (j : Nat) : Int × Int := (wx (sh f j) 16, wy (sh f j) 16)
/- the first eight of the first k places whose windows have the number x -/
def pl (f : Nat → UInt8) (x : Int × Int) : Nat → List Nat
  | 0 => []
  | k + 1 => if num f k = x ∧ (pl f x k).length < 8 then pl f x k ++ [k] else pl f x k
theorem pl_succ (f : Nat → UInt8) (x : Int × Int) (k : Nat) : pl f x (k + 1) = if num f k = x ∧ (pl f x k).length < 8 then pl f x k ++ [k] else pl f x k := rfl
theorem pl_len (f : Nat → UInt8) (x : Int × Int) (k : Nat) : (pl f x k).length ≤ 8 := by
  induction k with
  | zero => exact Nat.zero_le _
  | succ k ih =>
    rw [pl_succ]
    split
    · rename_i h; rw [List.length_append]; simp only [List.length_cons, List.length_nil]; omega
    · exact ih
theorem pl_mem {f : Nat → UInt8} {x : Int × Int} {k p : Nat} (h : p ∈ pl f x k) : p < k ∧ num f p = x := by
  induction k with
  | zero => exact absurd h (by simp [pl])
  | succ k ih =>
    rw [pl_succ] at h
    split at h
    · rename_i c
      rw [List.mem_append] at h
      rcases h with h | h
      · have := ih h; exact ⟨by omega, this.2⟩
      · simp at h; subst h; exact ⟨by omega, c.1⟩
    · have := ih h; exact ⟨by omega, this.2⟩
theorem pl_sorted (f : Nat → UInt8) (x : Int × Int) (k : Nat) : (pl f x k).Pairwise (· < ·) := by
  induction k with
  | zero => exact List.Pairwise.nil
  | succ k ih =>
    rw [pl_succ]
    split
    · rw [List.pairwise_append]
      refine ⟨ih, List.pairwise_singleton _ _, fun a ha b hb => ?_⟩
      simp at hb; subst hb
      exact (pl_mem ha).1
    · exact ih
theorem pl_all {f : Nat → UInt8} {x : Int × Int} {k p : Nat} (h : (pl f x k).length < 8) (hp : p < k) (hx : num f p = x) : p ∈ pl f x k := by
  induction k with
  | zero => omega
  | succ k ih =>
    rw [pl_succ] at h ⊢
    split at h
    · rename_i c
      rw [if_pos c, List.mem_append]
      rw [List.length_append] at h
      by_cases e : p < k
      · exact .inl (ih c.2 e)
      · have : p = k := by omega
        subst this; exact .inr (by simp)
    · rename_i c
      rw [if_neg c]
      by_cases e : p < k
      · exact ih h e
      · have : p = k := by omega
        subst this; exact absurd ⟨hx, h⟩ c
/- the places for the window at a place of another text (m, n: how many bytes the texts have) -/
def tri (f : Nat → UInt8) (m : Nat) (g : Nat → UInt8) (n : Nat) (at_ : Int) : List Nat := if 0 ≤ at_ ∧ at_ + 16 ≤ (n : Int) then pl f (num g at_.toNat) (m - 15) else []
theorem tri_in {f : Nat → UInt8} {m : Nat} {g : Nat → UInt8} {n : Nat} (k : Nat) (h : k + 16 ≤ n) : tri f m g n (k : Int) = pl f (num g k) (m - 15) := by
  unfold tri
  rw [if_pos ⟨by omega, by omega⟩]
  rfl
theorem tri_out {f : Nat → UInt8} {m : Nat} {g : Nat → UInt8} {n : Nat} {at_ : Int} (h : at_ < 0 ∨ (n : Int) < at_ + 16) : tri f m g n at_ = [] := by
  unfold tri
  rw [if_neg (by omega)]
theorem tri_len (f : Nat → UInt8) (m : Nat) (g : Nat → UInt8) (n : Nat) (at_ : Int) : (tri f m g n at_).length ≤ 8 := by
  unfold tri
  split
  · exact pl_len _ _ _
  · exact Nat.zero_le _
theorem tri_mem {f : Nat → UInt8} {m : Nat} {g : Nat → UInt8} {n : Nat} {at_ : Int} {p : Nat} (h : p ∈ tri f m g n at_) : p + 16 ≤ m ∧ 0 ≤ at_ ∧ at_ + 16 ≤ (n : Int) := by
  unfold tri at h
  split at h
  · rename_i c; have := (pl_mem h).1; omega
  · exact absurd h (by simp)
theorem tri_sorted (f : Nat → UInt8) (m : Nat) (g : Nat → UInt8) (n : Nat) (at_ : Int) : (tri f m g n at_).Pairwise (· < ·) := by
  unfold tri
  split
  · exact pl_sorted _ _ _
  · exact List.Pairwise.nil
/- how many bytes are alike, from two places on, of at most c -/
def lkF (f : Nat → UInt8) (g : Nat → UInt8) : Nat → Nat → Nat → Nat
  | _, _, 0 => 0
  | i, k, c + 1 => if f i = g k then lkF f g (i + 1) (k + 1) c + 1 else 0
theorem lkF_le (f g : Nat → UInt8) (i k c : Nat) : lkF f g i k c ≤ c := by
  induction c generalizing i k with
  | zero => exact Nat.le_refl _
  | succ c ih => unfold lkF; split; · have := ih (i + 1) (k + 1); omega
                 · omega
theorem lkF_is {f g : Nat → UInt8} {i k c r : Nat} (h1 : r ≤ c) (h2 : ∀ j, j < r → f (i + j) = g (k + j)) (h3 : r = c ∨ f (i + r) ≠ g (k + r)) : lkF f g i k c = r := by
  induction c generalizing i k r with
  | zero => unfold lkF; omega
  | succ c ih =>
    unfold lkF
    cases r with
    | zero =>
      rcases h3 with h3 | h3
      · omega
      · rw [if_neg (by simpa using h3)]
    | succ r =>
      rw [if_pos (by simpa using h2 0 (by omega)), ih (r := r) (by omega)]
      · intro j hj
        have := h2 (j + 1) (by omega)
        rw [show i + 1 + j = i + (j + 1) by omega, show k + 1 + j = k + (j + 1) by omega]
        exact this
      · rcases h3 with h3 | h3
        · exact .inl (by omega)
        · refine .inr ?_
          rw [show i + 1 + r = i + (r + 1) by omega, show k + 1 + r = k + (r + 1) by omega]
          exact h3
theorem lkF_spec (f g : Nat → UInt8) (i k c : Nat) : (∀ j, j < lkF f g i k c → f (i + j) = g (k + j)) ∧ (lkF f g i k c = c ∨ f (i + lkF f g i k c) ≠ g (k + lkF f g i k c)) := by
  induction c generalizing i k with
  | zero => exact ⟨fun j hj => by simp [lkF] at hj, .inl rfl⟩
  | succ c ih =>
    unfold lkF
    split
    · rename_i e
      obtain ⟨h1, h2⟩ := ih (i + 1) (k + 1)
      refine ⟨fun j hj => ?_, ?_⟩
      · cases j with
        | zero => simpa using e
        | succ j =>
          have := h1 j (by omega)
          rw [show i + 1 + j = i + (j + 1) by omega, show k + 1 + j = k + (j + 1) by omega] at this
          exact this
      · rcases h2 with h2 | h2
        · exact .inl (by omega)
        · right
          rw [show i + 1 + lkF f g (i + 1) (k + 1) c = i + (lkF f g (i + 1) (k + 1) c + 1) by omega, show k + 1 + lkF f g (i + 1) (k + 1) c = k + (lkF f g (i + 1) (k + 1) c + 1) by omega] at h2
          exact h2
    · rename_i e
      exact ⟨fun j hj => by omega, .inr (by simpa using e)⟩
/- the same at two texts of m and of n bytes -/
def lk (f : Nat → UInt8) (m : Nat) (g : Nat → UInt8) (n : Nat) (k i : Nat) : Nat := lkF f g i k (min (m - i) (n - k))
theorem lk_le (f : Nat → UInt8) (m : Nat) (g : Nat → UInt8) (n k i : Nat) : lk f m g n k i ≤ m - i ∧ lk f m g n k i ≤ n - k := by
  have := lkF_le f g i k (min (m - i) (n - k))
  unfold lk; omega
/- the longest piece, the first of several -/
def stp (L : Nat → Nat) (a : Nat × Nat) (p : Nat) : Nat × Nat := if 16 ≤ L p ∧ a.2 < L p then (p, L p) else a
def best (L : Nat → Nat) (l : List Nat) : Nat × Nat := l.foldl (stp L) (0, 0)
theorem best_snoc (L : Nat → Nat) (l : List Nat) (q : Nat) (h : q < l.length) : best L (l.take (q + 1)) = stp L (best L (l.take q)) (l.getD q 0) := by
  unfold best
  rw [List.take_add_one, List.foldl_append, List.getElem?_eq_getElem h]
  simp [List.getD_eq_getElem?_getD, List.getElem?_eq_getElem h]
theorem best_all (L : Nat → Nat) (l : List Nat) : best L (l.take l.length) = best L l := by rw [List.take_length]
def BInv (L : Nat → Nat) (pre : List Nat) (a : Nat × Nat) : Prop :=
  (a = (0, 0) ∧ ∀ q ∈ pre, L q < 16) ∨ (16 ≤ a.2 ∧ a.1 ∈ pre ∧ L a.1 = a.2 ∧ ∀ q ∈ pre, L q ≤ a.2 ∧ (L q = a.2 → a.1 ≤ q))
theorem best_inv (L : Nat → Nat) (l pre : List Nat) (a : Nat × Nat) (hs : (pre ++ l).Pairwise (· < ·)) (h : BInv L pre a) : BInv L (pre ++ l) (l.foldl (stp L) a) := by
  induction l generalizing pre a with
  | nil => simpa using h
  | cons p l ih =>
    have e : pre ++ p :: l = (pre ++ [p]) ++ l := by simp
    rw [e] at hs ⊢
    rw [List.foldl_cons]
    refine ih (pre ++ [p]) _ hs ?_
    have hlt : ∀ q ∈ pre, q < p := fun q hq => by
      rw [List.pairwise_append] at hs
      have h1 := hs.1
      rw [List.pairwise_append] at h1
      exact h1.2.2 q hq p (by simp)
    unfold stp
    split
    · rename_i c
      right
      refine ⟨c.1, by simp, rfl, fun q hq => ?_⟩
      rw [List.mem_append] at hq
      rcases hq with hq | hq
      · have hq2 : L q < L p := by
          rcases h with ⟨e0, hl⟩ | ⟨h1, h2, h3, h4⟩
          · have := hl q hq; omega
          · have := (h4 q hq).1; omega
        exact ⟨by show L q ≤ L p; omega, fun e => by have e' : L q = L p := e; omega⟩
      · simp at hq; subst hq; exact ⟨Nat.le_refl _, fun _ => Nat.le_refl _⟩
    · rename_i c
      rcases h with ⟨e0, hl⟩ | ⟨h1, h2, h3, h4⟩
      · left
        refine ⟨e0, fun q hq => ?_⟩
        rw [List.mem_append] at hq
        rcases hq with hq | hq
        · exact hl q hq
        · simp at hq; subst hq
          rw [e0] at c
          have c' : ¬ (16 ≤ L q ∧ 0 < L q) := c
          omega
      · right
        refine ⟨h1, by simp [h2], h3, fun q hq => ?_⟩
        rw [List.mem_append] at hq
        rcases hq with hq | hq
        · exact h4 q hq
        · simp at hq; subst hq
          refine ⟨?_, fun _ => Nat.le_of_lt (hlt _ h2)⟩
          by_cases c1 : 16 ≤ L q
          · have : ¬ (a.2 < L q) := fun c2 => c ⟨c1, c2⟩
            omega
          · omega
theorem best_is (L : Nat → Nat) (l : List Nat) (hs : l.Pairwise (· < ·)) : BInv L l (best L l) := by
  have h := best_inv L l [] (0, 0) (by simpa using hs) (.inl ⟨rfl, by simp⟩)
  exact h
/- what is found -/
def fnd (f : Nat → UInt8) (m : Nat) (g : Nat → UInt8) (n : Nat) (at_ : Int) : Nat × Nat := best (lk f m g n at_.toNat) (tri f m g n at_)
theorem fnd_there (f : Nat → UInt8) (m : Nat) (g : Nat → UInt8) (n : Nat) (at_ : Int) : fnd f m g n at_ = (0, 0) ∨
    ∃ k : Nat, at_ = (k : Int) ∧ 16 ≤ (fnd f m g n at_).2 ∧ (fnd f m g n at_).1 + (fnd f m g n at_).2 ≤ m ∧ k + (fnd f m g n at_).2 ≤ n ∧ (∀ j, j < (fnd f m g n at_).2 → f ((fnd f m g n at_).1 + j) = g (k + j)) ∧
      ((fnd f m g n at_).1 + (fnd f m g n at_).2 = m ∨ k + (fnd f m g n at_).2 = n ∨ f ((fnd f m g n at_).1 + (fnd f m g n at_).2) ≠ g (k + (fnd f m g n at_).2)) := by
  rcases best_is (lk f m g n at_.toNat) (tri f m g n at_) (tri_sorted _ _ _ _ _) with h | ⟨h1, h2, h3, h4⟩
  · exact .inl h.1
  · right
    obtain ⟨t1, t2, t3⟩ := tri_mem h2
    refine ⟨at_.toNat, by omega, ?_⟩
    unfold fnd
    obtain ⟨r, hr⟩ : ∃ r, r = best (lk f m g n at_.toNat) (tri f m g n at_) := ⟨_, rfl⟩
    rw [← hr] at h1 h2 h3 h4 t1 ⊢
    obtain ⟨l1, l2⟩ := lk_le f m g n at_.toNat r.1
    obtain ⟨s1, s2⟩ := lkF_spec f g r.1 at_.toNat (min (m - r.1) (n - at_.toNat))
    have e : lkF f g r.1 at_.toNat (min (m - r.1) (n - at_.toNat)) = r.2 := h3
    rw [e] at s1 s2
    rw [h3] at l1 l2
    refine ⟨h1, by omega, by omega, s1, ?_⟩
    rcases s2 with s2 | s2
    · omega
    · exact .inr (.inr s2)
/- a text that is its own base -/
theorem fnd_own (f : Nat → UInt8) (n k : Nat) (hk : k + 16 ≤ n) (hl : (tri f n f n (k : Int)).length < 8) : (fnd f n f n (k : Int)).2 = n - k ∧ (fnd f n f n (k : Int)).1 ≤ k ∧ ∀ j, j < n - k → f ((fnd f n f n (k : Int)).1 + j) = f (k + j) := by
  have hm : k ∈ tri f n f n (k : Int) := by
    rw [tri_in k hk] at hl ⊢
    exact pl_all hl (by omega) rfl
  have e : lk f n f n k k = n - k := lkF_is (r := n - k) (by omega) (fun j _ => rfl) (.inl (by omega))
  have hb := best_is (lk f n f n k) (tri f n f n (k : Int)) (tri_sorted _ _ _ _ _)
  have hf : fnd f n f n (k : Int) = best (lk f n f n k) (tri f n f n (k : Int)) := rfl
  rw [hf]
  rcases hb with ⟨_, h⟩ | ⟨h1, h2, h3, h4⟩
  · have := h k hm; omega
  · obtain ⟨g1, g2⟩ := h4 k hm
    have l := (lk_le f n f n k (best (lk f n f n k) (tri f n f n (k : Int))).1).2
    have e2 : (best (lk f n f n k) (tri f n f n (k : Int))).2 = n - k := by omega
    refine ⟨e2, g2 (by omega), fun j hj => ?_⟩
    refine (lkF_spec f f (best (lk f n f n k) (tri f n f n (k : Int))).1 k (min (n - (best (lk f n f n k) (tri f n f n (k : Int))).1) (n - k))).1 j ?_
    have : lkF f f (best (lk f n f n k) (tri f n f n (k : Int))).1 k (min (n - (best (lk f n f n k) (tri f n f n (k : Int))).1) (n - k)) = (best (lk f n f n k) (tri f n f n (k : Int))).2 := h3
    rw [this]; omega
end Go.Proofs.Ytekeaoolodmdaaa.Mt
