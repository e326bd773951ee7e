import Derived.Test.YtmcaapgcplhhmaaW1
import Derived.WalkSmall
import Derived.Lib.SliceRun
import Derived.Laws.IdiomStrings
import Derived.Deep.Draws
import Derived.Deep.MidRow
import Derived.StillTailTactics
/- Texts, and slices of texts. -/
namespace Go.Proofs.Ytmcaapgcplhhmaa
open Go.RowKit
theorem ty9 : Try.prog.underlying 9 = some .string := by kernel_rfl
theorem idx_str (s : ByteArray) (i : Nat) (h : i < s.size) (w : World) : (Instr.index 9 (.string s) (.int .i64 (i : Int))).run Try.prog w = .ok (.int .u8 ((sAt s i).toNat : Int)) w := by
  have hs : s.data.size = s.size := rfl
  have e : sAt s i = s[i] := by
    unfold sAt
    rw [List.getD_eq_getElem?_getD, Array.getElem?_toList, Array.getElem?_eq_getElem (by omega)]; rfl
  rw [e]
  have hai : (asIntOf (.int .i64 (i : Int))).run Try.prog w = .ok (.i64, (i : Int)) w := rfl
  simp [Instr.index, run_underlying ty9, hai, h]
theorem size_ext (s : ByteArray) (a b : Nat) (h1 : a ≤ b) (h2 : b ≤ s.size) : (s.extract a b).size = b - a := by
  rw [ByteArray.size_extract]; omega
theorem bl_ext_one (s : ByteArray) (i : Nat) (h : i < s.size) : bl (s.extract i (i + 1)) = [sAt s i] := by
  have hs : s.data.size = s.size := rfl
  unfold bl
  apply List.ext_getElem?
  intro j
  rw [ByteArray.data_extract, Array.getElem?_toList]
  by_cases c : j = 0
  · subst c
    rw [Array.getElem?_extract_of_lt (by omega)]
    unfold sAt
    have e : s.data.toList.getD i 0 = s.data[i + 0] := by
      rw [List.getD_eq_getElem?_getD, Array.getElem?_toList, Array.getElem?_eq_getElem (show i < s.data.size by omega)]
      rfl
    rw [e]
    rfl
  · rw [Array.getElem?_eq_none (by rw [Array.size_extract]; omega), List.getElem?_eq_none (by simp; omega)]
/- all parts, one behind the other -/
def cat (ss : Nat → ByteArray) : Nat → ByteArray
  | 0 => ⟨#[]⟩
  | k + 1 => cat ss k ++ ss k
theorem bl_cat (ss : Nat → ByteArray) (k : Nat) : bl (cat ss k) = pre ss k := by
  induction k with
  | zero => rfl
  | succ k ih => show bl (cat ss k ++ ss k) = pre ss k ++ bl (ss k); rw [bl_append, ih]
theorem cat_size (ss : Nat → ByteArray) (k : Nat) : (cat ss k).size = (pre ss k).length := by rw [← bl_len, bl_cat]
/- what an argument slice of strings says -/
def Strs (w : World) (v : Value) (ss : Nat → ByteArray) (len : Nat) : Prop :=
  (∃ ad cap, v = .slice ad 0 cap ∧ len = 0) ∨ (∃ b o cap, v = .slice (some ⟨b, o, none⟩) len cap ∧ 0 < len ∧ b < w.heap.size ∧ ∀ i, i < len → w.cell? ⟨b, o + i, none⟩ = some (.string (ss i)))
/- more parts than 30, or a part of more than 500 bytes -/
def longs (ss : Nat → ByteArray) : Nat → Bool
  | 0 => false
  | k + 1 => longs ss k || decide (500 < (ss k).size)
theorem longs_false {ss : Nat → ByteArray} {len : Nat} (h : longs ss len = false) : ∀ i, i < len → (ss i).size ≤ 500 := by
  induction len with
  | zero => intro i hi; omega
  | succ k ih =>
    unfold longs at h
    rw [Bool.or_eq_false_iff] at h
    intro i hi
    by_cases c : i < k
    · exact ih h.1 i c
    · have e : i = k := by omega
      subst e
      have := of_decide_eq_false h.2
      omega
theorem longs_true {ss : Nat → ByteArray} {k len : Nat} (hk : k < len) (h : 500 < (ss k).size) : longs ss len = true := by
  induction len with
  | zero => omega
  | succ n ih =>
    unfold longs
    by_cases c : k < n
    · rw [ih c, Bool.true_or]
    · have e : k = n := by omega
      subst e
      rw [decide_eq_true h, Bool.or_true]
def isGreat (ss : Nat → ByteArray) (len : Nat) : Bool := decide (30 < len) || longs ss len
theorem great_false {ss : Nat → ByteArray} {len : Nat} (h : isGreat ss len = false) : len ≤ 30 ∧ ∀ i, i < len → (ss i).size ≤ 500 := by
  unfold isGreat at h
  rw [Bool.or_eq_false_iff] at h
  have := of_decide_eq_false h.1
  exact ⟨by omega, longs_false h.2⟩
theorem strs_addr {w : World} {v : Value} {ss : Nat → ByteArray} {len : Nat} (h : Strs w v ss len) : ∃ ad cap, v = .slice ad len cap ∧ (0 < len → ∃ b o, ad = some ⟨b, o, none⟩ ∧ b < w.heap.size ∧ ∀ i, i < len → w.cell? ⟨b, o + i, none⟩ = some (.string (ss i))) := by
  rcases h with ⟨ad, cap, rfl, rfl⟩ | ⟨b, o, cap, rfl, h0, hb, hc⟩
  · exact ⟨ad, cap, rfl, fun h => absurd h (by omega)⟩
  · exact ⟨_, cap, rfl, fun _ => ⟨b, o, rfl, hb, hc⟩⟩
theorem strs_new (W : World) (cs : Array Value) (E : TypeId) (ss : Nat → ByteArray) (n b : Nat) (hb : b = W.heap.size) (hn : 0 < n) (hc : ∀ i, i < n → cs[i]? = some (.string (ss i))) :
    Strs (W.alloc (.cells cs E)) (.slice (some ⟨b, 0, none⟩) n n) ss n := Or.inr ⟨b, 0, n, rfl, hn, by subst hb; simp, fun i hi => by
  subst hb
  rw [cell_of_row _ _ _ _ _ _ (heap_alloc_new W _), Nat.zero_add]; exact hc i hi⟩
theorem Strs.below {W W' : World} {v : Value} {ss : Nat → ByteArray} {n : Nat} (h : Strs W v ss n) (hb : Below W.heap.size W W') : Strs W' v ss n := by
  rcases h with h | ⟨b, k, cap, h1, h2, h3, h4⟩
  · exact Or.inl h
  · exact Or.inr ⟨b, k, cap, h1, h2, Nat.lt_of_lt_of_le h3 hb.size, fun i hi => by rw [hb.cell h3]; exact h4 i hi⟩
/- the one text, and the two texts of a call -/
def oneS (s : ByteArray) (_ : Nat) : ByteArray := s
theorem one_cells (s : ByteArray) : ∀ i, i < 1 → (#[.string s] : Array Value)[i]? = some (.string (oneS s i)) := fun i hi =>
  match i, hi with
  | 0, _ => rfl
theorem one_pre (s : ByteArray) : pre (oneS s) 1 = bl s := rfl
def twoS (s t : ByteArray) (i : Nat) : ByteArray := if i = 0 then s else t
theorem two_cells (s t : ByteArray) : ∀ i, i < 2 → (#[.string s, .string t] : Array Value)[i]? = some (.string (twoS s t i)) := fun i hi =>
  match i, hi with
  | 0, _ => rfl
  | 1, _ => rfl
theorem two_pre (s t : ByteArray) : pre (twoS s t) 2 = bl s ++ bl t := rfl
end Go.Proofs.Ytmcaapgcplhhmaa
