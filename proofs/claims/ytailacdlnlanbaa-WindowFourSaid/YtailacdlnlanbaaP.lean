import Derived.Test.YtailacdlnlanbaaProg
import Derived.WalkKit
import Derived.WalkSpells
import Derived.WalkSmall
import Derived.Lib.SliceRun
import Derived.Lib.Hide
import Derived.Lib.BufferMore
import Derived.Laws.IdiomStrings
import Derived.Deep.Draws
import Derived.Deep.MidRow
import Derived.StillTailTactics
/- Texts as functions of places; blocks of bytes. -/
namespace Go.Proofs.Ytailacdlnlanbaa
open Go.RowKit
def sAt (t : ByteArray) (j : Nat) : UInt8 := t.data.toList.getD j 0
def strL (n : Nat) (f : Nat → UInt8) : List UInt8 := (List.range n).map f
theorem strL_length (n : Nat) (f : Nat → UInt8) : (strL n f).length = n := by simp [strL]
theorem strL_get (n : Nat) (f : Nat → UInt8) (i : Nat) (h : i < (strL n f).length) : (strL n f)[i] = f i := by simp [strL]
theorem strL_congr {n : Nat} {f g : Nat → UInt8} (h : ∀ i, i < n → f i = g i) : strL n f = strL n g := by
  unfold strL
  apply List.map_congr_left
  intro i hi
  exact h i (List.mem_range.1 hi)
def str (n : Nat) (f : Nat → UInt8) : ByteArray := ⟨(strL n f).toArray⟩
theorem str_size (n : Nat) (f : Nat → UInt8) : (str n f).size = n := by
  show (strL n f).toArray.size = n
  rw [List.size_toArray, strL_length]
theorem str_self (s : ByteArray) : s = str s.size (sAt s) := by
  have e : s.data.toList = strL s.size (sAt s) := by
    apply List.ext_getElem
    · rw [strL_length, Array.length_toList]; rfl
    · intro i h1 h2
      rw [strL_get]
      unfold sAt
      rw [List.getD_eq_getElem?_getD, List.getElem?_eq_getElem h1]; rfl
  apply ByteArray.ext
  show s.data = (strL s.size (sAt s)).toArray
  rw [← e, Array.toArray_toList]
theorem str_at (n : Nat) (f : Nat → UInt8) (i : Nat) (h : i < n) : sAt (str n f) i = f i := by
  unfold sAt str
  rw [List.getD_eq_getElem?_getD, List.toList_toArray, List.getElem?_eq_getElem (by rw [strL_length]; exact h), strL_get]; rfl
theorem sAt_ext (s : ByteArray) (a b j : Nat) (h1 : a ≤ b) (h2 : b ≤ s.size) (hj : j < b - a) : sAt (s.extract a b) j = sAt s (a + j) := by
  have hs : s.data.size = s.size := rfl
  unfold sAt
  rw [ByteArray.data_extract, List.getD_eq_getElem?_getD, List.getD_eq_getElem?_getD, Array.getElem?_toList, Array.getElem?_toList, Array.getElem?_extract_of_lt (by omega), Array.getElem?_eq_getElem (show a + j < s.data.size by omega)]
theorem size_ext (s : ByteArray) (a b : Nat) (h1 : a ≤ b) (h2 : b ≤ s.size) : (s.extract a b).size = b - a := by
  rw [ByteArray.size_extract]; omega
theorem ty9 : Try.prog.underlying 9 = some .string := by kernel_rfl
theorem ty5 : Try.prog.underlying 5 = some (.int .u8) := by kernel_rfl
theorem ty36 : Try.prog.underlying 36 = some (.slice 5) := by kernel_rfl
theorem idx_str (s : ByteArray) (i : Nat) (h : i < s.size) (w : World) : (Instr.index 9 (.string s) (.int .i64 (i : Int))).run Try.prog w = .ok (.int .u8 ((sAt s i).toNat : Int)) w := by
  have hs : s.data.size = s.size := rfl
  have e : sAt s i = s[i] := by
    unfold sAt
    rw [List.getD_eq_getElem?_getD, Array.getElem?_toList, Array.getElem?_eq_getElem (by omega)]; rfl
  rw [e]
  have hai : (asIntOf (.int .i64 (i : Int))).run Try.prog w = .ok (.i64, (i : Int)) w := rfl
  simp [Instr.index, run_underlying ty9, hai, h]
def bv (f : Nat → UInt8) (i : Nat) : Value := .int .u8 ((f i).toNat : Int)
/- a block whose first m cells are the bytes that g tells, none of them frozen -/
def Byt (w : World) (b m : Nat) (g : Nat → UInt8) : Prop := ∃ cs lo hi, w.heap[b]? = some (.cells cs 5 (lo, hi)) ∧ m ≤ lo ∧ ∀ j, j < m → cs[j]? = some (bv g j)
theorem Byt.cell {w : World} {b m : Nat} {g : Nat → UInt8} (h : Byt w b m g) (j : Nat) (hj : j < m) : w.cell? ⟨b, j, none⟩ = some (.int .u8 ((g j).toNat : Int)) := by
  obtain ⟨cs, lo, hi, hb, _, hc⟩ := h
  rw [cell_of_row w b j cs 5 _ hb]
  exact hc j hj
theorem Byt.frozen {w : World} {b m : Nat} {g : Nat → UInt8} (h : Byt w b m g) (j : Nat) (hj : j < m) : w.frozen? ⟨b, j, none⟩ = false := by
  obtain ⟨cs, lo, hi, hb, hm, hc⟩ := h
  simp only [World.frozen?, hb]
  rw [decide_eq_false (by omega), Bool.false_and]
theorem Byt.set {w : World} {b m : Nat} {g : Nat → UInt8} (h : Byt w b m g) (i : Nat) (v : UInt8) (f : Nat → UInt8) (hf : ∀ j, j < m → f j = if j = i then v else g j) :
    Byt (w.setCell ⟨b, i, none⟩ (.int .u8 (v.toNat : Int))) b m f := by
  obtain ⟨cs, lo, hi, hb, hm, hc⟩ := h
  refine ⟨cs.setIfInBounds i (.int .u8 (v.toNat : Int)), lo, hi, Lib.heap_setCell_same hb _, hm, fun j hj => ?_⟩
  have hcj := hc j hj
  rw [Array.getElem?_setIfInBounds]
  unfold bv
  rw [hf j hj]
  have hl : j < cs.size := by
    rcases Nat.lt_or_ge j cs.size with h1 | h1
    · exact h1
    · rw [Array.getElem?_eq_none h1] at hcj; cases hcj
  by_cases c : i = j
  · subst c
    rw [if_pos rfl, if_pos hl, if_pos rfl]
  · rw [if_neg c, if_neg (fun e => c e.symm), hcj]
    rfl
theorem Byt.drewN {w : World} {b m : Nat} {g : Nat → UInt8} (h : Byt w b m g) (q : Nat) : Byt (w.drewN q) b m g := by
  obtain ⟨cs, lo, hi, hb, hm, hc⟩ := h
  exact ⟨cs, lo, hi, by simpa using hb, hm, hc⟩
theorem Byt.lt {w : World} {b m : Nat} {g : Nat → UInt8} (h : Byt w b m g) : b < w.heap.size := by
  obtain ⟨cs, lo, hi, hb, hm, hc⟩ := h
  rcases Nat.lt_or_ge b w.heap.size with h1 | h1
  · exact h1
  · rw [Array.getElem?_eq_none h1] at hb; cases hb
/- what '[]byte(s)' lays -/
theorem Byt.new (w : World) (s : ByteArray) (cap lo hi : Nat) (hlo : s.size ≤ lo) : Byt (w.alloc (.cells (bytesRow s cap) 5 (lo, hi))) w.heap.size s.size (sAt s) := by
  refine ⟨bytesRow s cap, lo, hi, ?_, hlo, fun j hj => ?_⟩
  · show (w.heap.push _)[w.heap.size]? = _
    simp
  · have hs : s.data.size = s.size := rfl
    rw [bytesRow_at s cap j (by omega)]
    unfold bv sAt
    rw [List.getD_eq_getElem?_getD, Array.getElem?_toList, Array.getElem?_eq_getElem (by omega)]
    rfl
theorem bytesRow_lo (s : ByteArray) (cap : Nat) : s.size ≤ (bytesRow s cap).size := by
  have hs : s.data.size = s.size := rfl
  unfold bytesRow
  rw [Array.size_append, Array.size_map]
  omega
theorem conv_byt (w : World) (b n cap : Nat) (f : Nat → UInt8) (hB : Byt w b n f) : (convert 36 9 (.slice (some ⟨b, 0, none⟩) n cap)).run Try.prog w = .ok (.string (str n f)) w := by
  have h := run_convert_bytes_back (P := Try.prog) w 36 9 5 ⟨b, 0, none⟩ cap (strL n f) ty36 ty5 ty9 (fun j hj => by
    have hj' : j < n := by rw [strL_length] at hj; exact hj
    rw [Addr.add_mid, Nat.zero_add, hB.cell j hj', strL_get])
  rw [strL_length] at h
  exact h
end Go.Proofs.Ytailacdlnlanbaa
