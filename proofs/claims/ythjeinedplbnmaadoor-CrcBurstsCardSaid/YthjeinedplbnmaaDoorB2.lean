import Derived.Test.YthjeinedplbnmaaDoorB1
import Derived.Test.YthjeinedplbnmaaDoorJ1
import Derived.Lib.BufferMore
import Derived.Laws.IdiomStrings
namespace Go.Proofs.YthjeinedplbnmaaDoor
open Go.RowKit
/- a block whose first m cells are the bytes that g tells, none of them frozen -/
def Byt (w : World) (b m : Nat) (g : Nat → UInt8) : Prop := ∃ cs lo hi, w.heap[b]? = some (.cells cs 5 (lo, hi)) ∧ m ≤ lo ∧ ∀ j, j < m → cs[j]? = some (bv g j)
theorem Byt.cell {w : World} {b m : Nat} {g : Nat → UInt8} (h : Byt w b m g) (j : Nat) (hj : j < m) : w.cell? ⟨b, j, none⟩ = some (.int .u8 ((g j).toNat : Int)) := by
  obtain ⟨cs, lo, hi, hb, _, hc⟩ := h
  rw [cell_of_row w b j cs 5 _ hb]
  exact hc j hj
theorem Byt.frozen {w : World} {b m : Nat} {g : Nat → UInt8} (h : Byt w b m g) (j : Nat) (hj : j < m) : w.frozen? ⟨b, j, none⟩ = false := by
  obtain ⟨cs, lo, hi, hb, hm, hc⟩ := h
  simp only [World.frozen?, hb]
  rw [decide_eq_false (by omega), Bool.false_and]
theorem Byt.set {w : World} {b m : Nat} {g : Nat → UInt8} (h : Byt w b m g) (i : Nat) (v : UInt8) (f : Nat → UInt8) (hf : ∀ j, j < m → f j = if j = i then v else g j) :
    Byt (w.setCell ⟨b, i, none⟩ (.int .u8 (v.toNat : Int))) b m f := by
  obtain ⟨cs, lo, hi, hb, hm, hc⟩ := h
  refine ⟨cs.setIfInBounds i (.int .u8 (v.toNat : Int)), lo, hi, Lib.heap_setCell_same hb _, hm, fun j hj => ?_⟩
  have hcj := hc j hj
  rw [Array.getElem?_setIfInBounds]
  unfold bv
  rw [hf j hj]
  have hl : j < cs.size := by
    rcases Nat.lt_or_ge j cs.size with h1 | h1
    · exact h1
    · rw [Array.getElem?_eq_none h1] at hcj; cases hcj
  by_cases c : i = j
  · subst c
    rw [if_pos rfl, if_pos hl, if_pos rfl]
  · rw [if_neg c, if_neg (fun e => c e.symm), hcj]
    rfl
theorem Byt.drewN {w : World} {b m : Nat} {g : Nat → UInt8} (h : Byt w b m g) (q : Nat) : Byt (w.drewN q) b m g := by
  obtain ⟨cs, lo, hi, hb, hm, hc⟩ := h
  exact ⟨cs, lo, hi, by simpa using hb, hm, hc⟩
theorem Byt.lt {w : World} {b m : Nat} {g : Nat → UInt8} (h : Byt w b m g) : b < w.heap.size := by
  obtain ⟨cs, lo, hi, hb, hm, hc⟩ := h
  rcases Nat.lt_or_ge b w.heap.size with h1 | h1
  · exact h1
  · rw [Array.getElem?_eq_none h1] at hb; cases hb
/- what '[]byte(s)' lays -/
theorem Byt.new (w : World) (s : ByteArray) (cap lo hi : Nat) (hlo : s.size ≤ lo) : Byt (w.alloc (.cells (bytesRow s cap) 5 (lo, hi))) w.heap.size s.size (sAt s) := by
  refine ⟨bytesRow s cap, lo, hi, ?_, hlo, fun j hj => ?_⟩
  · show (w.heap.push _)[w.heap.size]? = _
    simp
  · have hs : s.data.size = s.size := rfl
    rw [bytesRow_at s cap j (by omega)]
    unfold bv sAt
    rw [List.getD_eq_getElem?_getD, Array.getElem?_toList, Array.getElem?_eq_getElem (by omega)]
    rfl
theorem bytesRow_lo (s : ByteArray) (cap : Nat) : s.size ≤ (bytesRow s cap).size := by
  have hs : s.data.size = s.size := rfl
  unfold bytesRow
  rw [Array.size_append, Array.size_map]
  omega
theorem conv_byt (w : World) (b n cap : Nat) (f : Nat → UInt8) (hB : Byt w b n f) : (convert 40 9 (.slice (some ⟨b, 0, none⟩) n cap)).run Tryd.prog w = .ok (.string (str n f)) w := by
  have h := run_convert_bytes_back (P := Tryd.prog) w 40 9 5 ⟨b, 0, none⟩ cap (strL n f) ty40 ty5 ty9 (fun j hj => by
    have hj' : j < n := by rw [strL_length] at hj; exact hj
    rw [Addr.add_mid, Nat.zero_add, hB.cell j hj', strL_get])
  rw [strL_length] at h
  exact h
end Go.Proofs.YthjeinedplbnmaaDoor
