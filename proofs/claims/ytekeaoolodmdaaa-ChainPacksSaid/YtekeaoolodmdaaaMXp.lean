import Derived.Test.YtekeaoolodmdaaaProg
import Derived.WalkKit
import Derived.WalkSpells
import Derived.WalkSmall
import Derived.Lib.SliceRun
import Derived.Lib.Hide
import Derived.Lib.BufferMore
import Derived.Laws.IdiomStrings
import Derived.Deep.Draws
import Derived.Deep.MidRow
import Derived.StillTailTactics
/- Texts as functions of places; blocks of bytes. -/
namespace Go.Proofs.Ytekeaoolodmdaaa.Mt
set_option maxRecDepth 100000
open Go.RowKit
def sAt (t : ByteArray) (j : Nat) : UInt8 := t.data.toList.getD j 0
def strL (n : Nat) (f : Nat → UInt8) : List UInt8 := (List.range n).map f
theorem strL_length (n : Nat) (f : Nat → UInt8) : (strL n f).length = n := by simp [strL]
theorem strL_get (n : Nat) (f : Nat → UInt8) (i : Nat) (h : i < (strL n f).length) : (strL n f)[i] = f i := by simp [strL]
theorem strL_congr {n : Nat} {f g : Nat → UInt8} (h : ∀ i, i < n → f i = g i) : strL n f = strL n g := by
  unfold strL
  apply List.map_congr_left
  intro i hi
  exact h i (List.mem_range.1 hi)
def str (n : Nat) (f : Nat → UInt8) : ByteArray := ⟨(strL n f).toArray⟩
theorem str_size (n : Nat) (f : Nat → UInt8) : (str n f).size = n := by
  show (strL n f).toArray.size = n
  rw [List.size_toArray, strL_length]
theorem str_self (s : ByteArray) : s = str s.size (sAt s) := by
  have e : s.data.toList = strL s.size (sAt s) := by
    apply List.ext_getElem
    · rw [strL_length, Array.length_toList]; rfl
    · intro i h1 h2
      rw [strL_get]
      unfold sAt
      rw [List.getD_eq_getElem?_getD, List.getElem?_eq_getElem h1]; rfl
  apply ByteArray.ext
  show s.data = (strL s.size (sAt s)).toArray
  rw [← e, Array.toArray_toList]
theorem str_at (n : Nat) (f : Nat → UInt8) (i : Nat) (h : i < n) : sAt (str n f) i = f i := by
  unfold sAt str
  rw [List.getD_eq_getElem?_getD, List.toList_toArray, List.getElem?_eq_getElem (by rw [strL_length]; exact h), strL_get]; rfl
theorem sAt_ext (s : ByteArray) (a b j : Nat) (h1 : a ≤ b) (h2 : b ≤ s.size) (hj : j < b - a) : sAt (s.extract a b) j = sAt s (a + j) := by
  have hs : s.data.size = s.size := rfl
  unfold sAt
  rw [ByteArray.data_extract, List.getD_eq_getElem?_getD, List.getD_eq_getElem?_getD, Array.getElem?_toList, Array.getElem?_toList, Array.getElem?_extract_of_lt (by omega), Array.getElem?_eq_getElem (show a + j < s.data.size by omega)]
theorem size_ext (s : ByteArray) (a b : Nat) (h1 : a ≤ b) (h2 : b ≤ s.size) : (s.extract a b).size = b - a := by
  rw [ByteArray.size_extract]; omega
theorem ty_str : Try.prog.underlying 9 = some .string := by kernel_rfl
theorem ty_u8 : Try.prog.underlying 5 = some (.int .u8) := by kernel_rfl
theorem idx_str (s : ByteArray) (i : Nat) (h : i < s.size) (w : World) : (Instr.index 9 (.string s) (.int .i64 (i : Int))).run Try.prog w = .ok (.int .u8 ((sAt s i).toNat : Int)) w := by
  have hs : s.data.size = s.size := rfl
  have e : sAt s i = s[i] := by
    unfold sAt
    rw [List.getD_eq_getElem?_getD, Array.getElem?_toList, Array.getElem?_eq_getElem (by omega)]; rfl
  rw [e]
  have hai : (asIntOf (.int .i64 (i : Int))).run Try.prog w = .ok (.i64, (i : Int)) w := rfl
  simp [Instr.index, run_underlying ty_str, hai, h]
end Go.Proofs.Ytekeaoolodmdaaa.Mt
