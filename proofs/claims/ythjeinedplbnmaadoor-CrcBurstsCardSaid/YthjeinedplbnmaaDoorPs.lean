import Derived.Test.YthjeinedplbnmaaDoorPc
namespace Go.Proofs.YthjeinedplbnmaaDoor
open Go.RowKit
def sAt (t : ByteArray) (j : Nat) : UInt8 := t.data.toList.getD j 0
/- a text of n bytes as a function tells them -/
def strL (n : Nat) (f : Nat → UInt8) : List UInt8 := (List.range n).map f
theorem strL_length (n : Nat) (f : Nat → UInt8) : (strL n f).length = n := by simp [strL]
theorem strL_get (n : Nat) (f : Nat → UInt8) (i : Nat) (h : i < (strL n f).length) : (strL n f)[i] = f i := by simp [strL]
theorem strL_succ (n : Nat) (f : Nat → UInt8) : strL (n + 1) f = strL n f ++ [f n] := by simp [strL, List.range_succ]
theorem strL_add (n m : Nat) (f : Nat → UInt8) : strL (n + m) f = strL n f ++ strL m (fun i => f (n + i)) := by
  induction m with
  | zero => simp [strL]
  | succ m ih => rw [← Nat.add_assoc, strL_succ, ih, strL_succ, List.append_assoc]
theorem strL_congr {n : Nat} {f g : Nat → UInt8} (h : ∀ i, i < n → f i = g i) : strL n f = strL n g := by
  unfold strL
  apply List.map_congr_left
  intro i hi
  exact h i (List.mem_range.1 hi)
def str (n : Nat) (f : Nat → UInt8) : ByteArray := ⟨(strL n f).toArray⟩
theorem str_size (n : Nat) (f : Nat → UInt8) : (str n f).size = n := by
  show (strL n f).toArray.size = n
  rw [List.size_toArray, strL_length]
theorem str_self (s : ByteArray) : s = str s.size (sAt s) := by
  have e : s.data.toList = strL s.size (sAt s) := by
    apply List.ext_getElem
    · rw [strL_length, Array.length_toList]; rfl
    · intro i h1 h2
      rw [strL_get]
      unfold sAt
      rw [List.getD_eq_getElem?_getD, List.getElem?_eq_getElem h1]; rfl
  apply ByteArray.ext
  show s.data = (strL s.size (sAt s)).toArray
  rw [← e, Array.toArray_toList]
theorem str_at (n : Nat) (f : Nat → UInt8) (i : Nat) (h : i < n) : sAt (str n f) i = f i := by
  unfold sAt str
  rw [List.getD_eq_getElem?_getD, List.toList_toArray, List.getElem?_eq_getElem (by rw [strL_length]; exact h), strL_get]; rfl
theorem str_push (n : Nat) (f : Nat → UInt8) (c : UInt8) (h : f n = c) : str n f ++ ⟨#[c]⟩ = str (n + 1) f := by
  unfold str
  rw [strL_succ, h]
  exact ByteArray.mk_append_mk _ [c]
theorem str_add (n m : Nat) (f g : Nat → UInt8) (h : ∀ i, i < m → f (n + i) = g i) : str n f ++ str m g = str (n + m) f := by
  unfold str
  rw [strL_add, strL_congr h]
  exact ByteArray.mk_append_mk _ _
theorem str_congr {n : Nat} {f g : Nat → UInt8} (h : ∀ i, i < n → f i = g i) : str n f = str n g := by unfold str; rw [strL_congr h]
/- how many bytes the first k parts have -/
def offs (ss : Nat → ByteArray) : Nat → Nat
  | 0 => 0
  | k + 1 => offs ss k + (ss k).size
theorem offs_mono (ss : Nat → ByteArray) {a b : Nat} (h : a ≤ b) : offs ss a ≤ offs ss b := by
  induction h with
  | refl => exact Nat.le_refl _
  | step _ ih => exact Nat.le_trans ih (Nat.le_add_right _ _)
/- the parts as a text: byte i of all parts, one behind the other -/
def joinF (ss : Nat → ByteArray) : Nat → Nat → UInt8
  | 0, _ => 0
  | k + 1, i => if i < offs ss k then joinF ss k i else sAt (ss k) (i - offs ss k)
theorem joinF_parts (ss : Nat → ByteArray) (len i j : Nat) (hi : i < len) (hj : j < (ss i).size) : sAt (ss i) j = joinF ss len (offs ss i + j) := by
  induction len with
  | zero => omega
  | succ k ih =>
    unfold joinF
    by_cases c : i < k
    · have h1 := offs_mono ss (show i + 1 ≤ k by omega)
      have h2 : offs ss (i + 1) = offs ss i + (ss i).size := rfl
      rw [if_pos (by omega)]
      exact ih c
    · have e : i = k := by omega
      subst e
      rw [if_neg (by omega), show offs ss i + j - offs ss i = j by omega]
/- what an argument slice of strings says -/
def Strs (w : World) (v : Value) (ss : Nat → ByteArray) (len : Nat) : Prop :=
  (∃ ad cap, v = .slice ad 0 cap ∧ len = 0) ∨ (∃ b o cap, v = .slice (some ⟨b, o, none⟩) len cap ∧ 0 < len ∧ b < w.heap.size ∧ ∀ i, i < len → w.cell? ⟨b, o + i, none⟩ = some (.string (ss i)))
/- more parts than 40, or a part of more than 1000 bytes -/
def longs (ss : Nat → ByteArray) : Nat → Bool
  | 0 => false
  | k + 1 => longs ss k || decide (1000 < (ss k).size)
theorem longs_false {ss : Nat → ByteArray} {len : Nat} (h : longs ss len = false) : ∀ i, i < len → (ss i).size ≤ 1000 := by
  induction len with
  | zero => intro i hi; omega
  | succ k ih =>
    unfold longs at h
    rw [Bool.or_eq_false_iff] at h
    intro i hi
    by_cases c : i < k
    · exact ih h.1 i c
    · have e : i = k := by omega
      subst e
      have := of_decide_eq_false h.2
      omega
theorem longs_true {ss : Nat → ByteArray} {k len : Nat} (hk : k < len) (h : 1000 < (ss k).size) : longs ss len = true := by
  induction len with
  | zero => omega
  | succ n ih =>
    unfold longs
    by_cases c : k < n
    · rw [ih c, Bool.true_or]
    · have e : k = n := by omega
      subst e
      rw [decide_eq_true h, Bool.or_true]
def isGreat (ss : Nat → ByteArray) (len : Nat) : Bool := decide (40 < len) || longs ss len
theorem offs_le (ss : Nat → ByteArray) (len : Nat) (h : ∀ i, i < len → (ss i).size ≤ 1000) : offs ss len ≤ 1000 * len := by
  induction len with
  | zero => exact Nat.le_refl _
  | succ k ih =>
    have h1 := ih (fun i hi => h i (by omega))
    have h2 := h k (by omega)
    show offs ss k + (ss k).size ≤ _
    omega
theorem strs_addr {w : World} {v : Value} {ss : Nat → ByteArray} {len : Nat} (h : Strs w v ss len) : ∃ ad cap, v = .slice ad len cap ∧ (0 < len → ∃ b o, ad = some ⟨b, o, none⟩ ∧ b < w.heap.size ∧ ∀ i, i < len → w.cell? ⟨b, o + i, none⟩ = some (.string (ss i))) := by
  rcases h with ⟨ad, cap, rfl, rfl⟩ | ⟨b, o, cap, rfl, h0, hb, hc⟩
  · exact ⟨ad, cap, rfl, fun h => absurd h (by omega)⟩
  · exact ⟨_, cap, rfl, fun _ => ⟨b, o, rfl, hb, hc⟩⟩
theorem sAt_ext (s : ByteArray) (a b j : Nat) (h1 : a ≤ b) (h2 : b ≤ s.size) (hj : j < b - a) : sAt (s.extract a b) j = sAt s (a + j) := by
  have hs : s.data.size = s.size := rfl
  unfold sAt
  rw [ByteArray.data_extract, List.getD_eq_getElem?_getD, List.getD_eq_getElem?_getD, Array.getElem?_toList, Array.getElem?_toList, Array.getElem?_extract_of_lt (by omega), Array.getElem?_eq_getElem (show a + j < s.data.size by omega)]
theorem size_ext (s : ByteArray) (a b : Nat) (h1 : a ≤ b) (h2 : b ≤ s.size) : (s.extract a b).size = b - a := by
  rw [ByteArray.size_extract]; omega
theorem strs_new (W : World) (cs : Array Value) (E : TypeId) (ss : Nat → ByteArray) (n b : Nat) (hb : b = W.heap.size) (hn : 0 < n) (hc : ∀ i, i < n → cs[i]? = some (.string (ss i))) :
    Strs (W.alloc (.cells cs E)) (.slice (some ⟨b, 0, none⟩) n n) ss n := Or.inr ⟨b, 0, n, rfl, hn, by subst hb; simp, fun i hi => by
  subst hb
  rw [cell_of_row _ _ _ _ _ _ (heap_alloc_new W _), Nat.zero_add]; exact hc i hi⟩
theorem Strs.alloc {W : World} {v : Value} {ss : Nat → ByteArray} {n : Nat} (h : Strs W v ss n) (o : Obj) : Strs (W.alloc o) v ss n := by
  rcases h with h | ⟨b, k, cap, h1, h2, h3, h4⟩
  · exact Or.inl h
  · exact Or.inr ⟨b, k, cap, h1, h2, by simp; omega, fun i hi => by
      have hh : (w : World) → Below W.heap.size W (W.alloc o) := fun _ => (Below.refl _ _).alloc (Nat.le_refl _) _
      rw [(hh W).cell h3]; exact h4 i hi⟩
theorem Strs.below {W W' : World} {v : Value} {ss : Nat → ByteArray} {n : Nat} (h : Strs W v ss n) (hb : Below W.heap.size W W') : Strs W' v ss n := by
  rcases h with h | ⟨b, k, cap, h1, h2, h3, h4⟩
  · exact Or.inl h
  · exact Or.inr ⟨b, k, cap, h1, h2, Nat.lt_of_lt_of_le h3 hb.size, fun i hi => by rw [hb.cell h3]; exact h4 i hi⟩
end Go.Proofs.YthjeinedplbnmaaDoor
