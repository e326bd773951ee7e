import Derived.WalkKit
import Derived.WalkSpells
import Derived.WalkSmall
import Derived.Deep.Draws
import Derived.Deep.MidRow
import Derived.Laws.CopyOwn
namespace Go.Proofs.Ytdfoejgkjfklcaa
open Go.RowKit
/- n values as a function tells them -/
def arr (n : Nat) (f : Nat → Value) : Array Value := Array.ofFn (fun i : Fin n => f i)
theorem arr_size (n : Nat) (f : Nat → Value) : (arr n f).size = n := by simp [arr]
theorem arr_congr {n : Nat} {f g : Nat → Value} (h : ∀ i, i < n → f i = g i) : arr n f = arr n g := by
  unfold arr
  apply Array.ext
  · simp
  · intro i h1 h2
    simp at h1
    simp [h i h1]
theorem arr_get (n : Nat) (f : Nat → Value) (i : Nat) (h : i < n) : (arr n f)[i]? = some (f i) := by simp [arr, h]
/- a block of n cells that reads as a function -/
def Blk (w : World) (b : Nat) (E : TypeId) (n : Nat) (f : Nat → Value) : Prop :=
  w.heap[b]? = some (.cells (arr n f) E (0, 0))

theorem Blk.lt {w : World} {b E n f} (h : Blk w b E n f) : b < w.heap.size := by
  unfold Blk at h
  by_cases hlt : b < w.heap.size
  · exact hlt
  · have hn : w.heap[b]? = none := by simp; omega
    rw [hn] at h; cases h
theorem Blk.cell {w : World} {b E n f} (h : Blk w b E n f) (i : Nat) (hi : i < n) : w.cell? ⟨b, i, none⟩ = some (f i) := by
  rw [cell_of_row w b i _ E _ h]
  exact arr_get n f i hi
theorem Blk.frozen {w : World} {b E n f} (h : Blk w b E n f) (i : Nat) : w.frozen? ⟨b, i, none⟩ = false :=
  frozen_of_row w b i _ E h
theorem Blk.congr {w : World} {b E n f g} (h : Blk w b E n f) (hfg : ∀ i, i < n → f i = g i) : Blk w b E n g := by
  unfold Blk at *
  rw [h, arr_congr hfg]
theorem Blk.set {w : World} {b E n f} (h : Blk w b E n f) (i : Nat) (v : Value) : Blk (w.setCell ⟨b, i, none⟩ v) b E n (fun j => if j = i then v else f j) := by
  unfold Blk at *
  rw [heap_setCell_same w b i _ E v h]
  congr 2
  unfold arr
  apply Array.ext
  · simp
  · intro j h1 h2
    simp at h1
    rw [Array.getElem_setIfInBounds (by simpa using h1)]
    simp only [Array.getElem_ofFn]
    by_cases e : i = j
    · subst e; simp
    · rw [if_neg e, if_neg (fun e' => e e'.symm)]
theorem Blk.setOther {w : World} {b E n f} (h : Blk w b E n f) (a : Addr) (v : Value) (ha : a.block ≠ b) : Blk (w.setCell a v) b E n f := by
  unfold Blk at *
  rw [heap_setCell_other w a b v (fun e => ha e.symm)]; exact h
theorem Blk.alloc {w : World} {b E n f} (h : Blk w b E n f) (o : Obj) : Blk (w.alloc o) b E n f := by
  have hl := h.lt
  unfold Blk at *
  show (w.heap.push o)[b]? = _
  rw [Array.getElem?_push, if_neg (Nat.ne_of_lt hl)]; exact h
theorem Blk.drew {w : World} {b E n f} (h : Blk w b E n f) : Blk w.drew b E n f := h
theorem Blk.drewN {w : World} {b E n f} (h : Blk w b E n f) (q : Nat) : Blk (w.drewN q) b E n f := by
  unfold Blk at *; simpa using h
theorem Blk.below {w w' : World} {B b E n f} (h : Blk w b E n f) (hb : Below B w w') (hlt : b < B) : Blk w' b E n f := by
  unfold Blk at *
  rw [hb.block b hlt]; exact h
theorem Blk.new (w : World) (cs : Array Value) (E : TypeId) (n : Nat) (f : Nat → Value) (hc : cs = arr n f) : Blk (w.alloc (.cells cs E)) w.heap.size E n f := by
  unfold Blk
  rw [heap_alloc_new, hc]
theorem Blk.newAt {w : World} {b : Nat} {cs : Array Value} {E : TypeId} {n : Nat} (f : Nat → Value) (h : w.heap[b]? = some (.cells cs E (0,0))) (hc : cs = arr n f) : Blk w b E n f := by
  unfold Blk
  rw [h, hc]
theorem Blk.setRow {w : World} {b E n f} (h : Blk w b E n f) (g : Nat → Value) : Blk (w.setRow b (arr n g)) b E n g := by
  unfold Blk at *
  exact setRow_heap w b _ _ E _ h
theorem Blk.setRowOther {w : World} {b E n f} (h : Blk w b E n f) (k : Nat) (cs : Array Value) (hk : k ≠ b) : Blk (w.setRow k cs) b E n f := by
  unfold Blk at *
  rw [setRow_other w k b cs (fun e => hk e.symm)]; exact h
theorem Blk.range {w : World} {b E n f} (h : Blk w b E n f) (o m : Nat) (hm : o + m ≤ n) : w.rangeAt b o (arr m (fun i => f (o + i))).toList := by
  intro j v hv
  have hj : j < m := by
    have := (List.getElem?_eq_some_iff.1 hv).1
    simpa [arr_size] using this
  have e : (arr m (fun i => f (o + i))).toList[j]? = some (f (o + j)) := by
    rw [Array.getElem?_toList]; exact arr_get _ _ _ hj
  rw [e] at hv
  cases hv
  exact h.cell _ (by omega)
theorem Blk.there {w : World} {b E n f} (h : Blk w b E n f) (o m : Nat) (hm : o + m ≤ n) : w.there b o m := fun j hj =>
  ⟨by rw [h.cell _ (by omega)]; rfl, h.frozen _⟩

section
variable {P : Program}
theorem wpList_load_blk {ops : Array Oper} {rest : List Oper} {o : Oper} {a : Act} {w : World} {Q : Exit → Act → World → Prop} (hgd : o.guard = none) (ty : TypeId) (x : Operand) (ho : o.op = .load ty x)
    (g : Nat) (hx : a.eval x = .pointer (some ⟨g, 0, none⟩)) (E : TypeId) (n : Nat) (f : Nat → Value) (hB : Blk w g E n f) (d : TypeDesc)
    (hu : P.underlying ty = some d) (hd : (match d with | .struct _ | .array _ _ => true | _ => false) = true) (hi : (P.info? ty).map (·.size) = some n)
    (h : wpList P ops Q rest (a.put o.dst (.agg (arr n f))) w) : wpList P ops Q (o :: rest) a w :=
  wpList_load_row hgd ty x ho g hx E (arr n f) (0, 0) d hB hu hd (by rw [arr_size]; exact hi) h
theorem wpList_store_blk {ops : Array Oper} {rest : List Oper} {o : Oper} {a : Act} {w : World} {Q : Exit → Act → World → Prop} (hgd : o.guard = none) (ty : TypeId) (x y : Operand) (ho : o.op = .store ty x y)
    (g : Nat) (n : Nat) (f fo : Nat → Value) (hx : a.eval x = .pointer (some ⟨g, 0, none⟩)) (hy : a.eval y = .agg (arr n f)) (E : TypeId) (hB : Blk w g E n fo)
    (hi : (P.info? ty).map (·.size) = some n) (h1 : ∀ i, i < n → (f i).oneCell' = true)
    (h : wpList P ops Q rest (a.put o.dst undef) (w.setRow g (arr n f))) : wpList P ops Q (o :: rest) a w :=
  wpList_store_row hgd ty x y ho g (arr n f) hx hy E (arr n fo) hB (by rw [arr_size]; exact hi) (by rw [arr_size, arr_size])
    (Array.all_eq_true_iff_forall_mem.2 (fun v hv => by
      unfold arr at hv
      rw [Array.mem_ofFn] at hv
      obtain ⟨i, rfl⟩ := hv
      exact h1 i i.isLt)) h
theorem results_blk {fn : Func} {p : Tmp} {ty : TypeId} (h : fn.results = #[.cell p ty]) (tmps : Array Value) (w : World) (g : Nat) (E : TypeId) (n : Nat) (f : Nat → Value) (hB : Blk w g E n f) (d : TypeDesc)
    (hp : tmps.getD p undef = .pointer (some ⟨g, 0, none⟩))
    (hu : P.underlying ty = some d) (hd : (match d with | .struct _ | .array _ _ => true | _ => false) = true) (hi : (P.info? ty).map (·.size) = some n) :
    (results fn tmps).run P w = .ok (.agg (arr n f)) w :=
  results_cell_row h tmps w g E (arr n f) (0, 0) d hp hB hu hd (by rw [arr_size]; exact hi)
end
end Go.Proofs.Ytdfoejgkjfklcaa
