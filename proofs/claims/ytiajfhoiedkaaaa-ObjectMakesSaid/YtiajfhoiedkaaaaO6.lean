import Derived.Test.YtiajfhoiedkaaaaO5
import Derived.Test.YtiajfhoiedkaaaaSg
import Derived.Deep.RegionHeld3
/- Whether a commit may be: the program's answer, and the reference's. -/
namespace Go.Proofs.Ytiajfhoiedkaaaa
open Go.RowKit Classical
theorem id_toArray (f : Nat → UInt8) : ((arr 32 (bv f)).toList).toArray = arr 32 (bv f) := Array.toArray_toList
theorem eqlId (f g : Nat → UInt8) (w : World) : (binOp .eql 33 (.agg (arr 32 (bv f))) (.agg (arr 32 (bv g)))).run Try.prog w = .ok (.bool (decide (same32 f g))) w := by
  rw [run_eql_arr8 w 33 5 32 f g ty30 t5 (by kernel_rfl)]
  congr 3
theorem neqId (f g : Nat → UInt8) (w : World) : (binOp .neq 33 (.agg (arr 32 (bv f))) (.agg (arr 32 (bv g)))).run Try.prog w = .ok (.bool (!decide (same32 f g))) w := by
  rw [run_neq_arr8 w 33 5 32 f g ty30 t5 (by kernel_rfl)]
  congr 4
/- is an id among the first n? -/
def among (p : Nat → Nat → UInt8) (n : Nat) (f : Nat → UInt8) : Prop := ∃ i, i < n ∧ same32 (p i) f
theorem cont_any (p : Nat → Nat → UInt8) (f : Nat → UInt8) (b o n c : Nat) (w : World) (hn : n ≤ 9223372036854775807) (hA : At w b o (n * 32) (pc p)) :
    Calls Try.prog 66 #[.slice (some ⟨b, o, none⟩) n c, .agg (arr 32 (bv f))] w fun e w' => e = .returned (.bool (decide (among p n f))) ∧ Below w.heap.size w w' := by
  have h := AnyQ.slices_Contains containsI 32 Try.isAgg33 Try.sizeOf33 (fun f : Nat → UInt8 => (arr 32 (bv f)).toList) (fun x => by rw [Array.length_toList, arr_size]) (fun x y => decide (same32 y x))
    ⟨fun x y w => by
      show (binOp .eql 33 (.agg (arr 32 (bv x)).toList.toArray) (.agg (arr 32 (bv y)).toList.toArray)).run Try.prog w = _
      rw [id_toArray, id_toArray, eqlId]
      rw [show decide (same32 x y) = decide (same32 y x) from decide_eq_decide.2 ⟨fun h i hi => (h i hi).symm, fun h i hi => (h i hi).symm⟩], GuardAt.agg _ (by kernel_rfl)⟩
    b o n c ((List.range n).map p) f w (by simp) hn (fun j hj i v hv => by
      have hj2 : j < n := by simpa using hj
      have e : ((List.range n).map p)[j]! = p j := by simp [hj2]
      rw [e] at hv
      rw [(hA.idk j hj2).range i v hv])
  rw [id_toArray] at h
  refine h.mono ?_
  rintro e w' ⟨h1, h2⟩
  refine ⟨?_, h2⟩
  rw [h1]
  congr 2
  apply Bool.eq_iff_iff.2
  rw [List.any_eq_true, decide_eq_true_iff]
  unfold among
  rw [List.take_of_length_le (by simp)]
  constructor
  · rintro ⟨x, hx, h⟩
    obtain ⟨i, hi, rfl⟩ := List.mem_map.1 hx
    exact ⟨i, List.mem_range.1 hi, of_decide_eq_true h⟩
  · rintro ⟨i, hi, h⟩
    exact ⟨p i, List.mem_map.2 ⟨i, List.mem_range.2 hi, rfl⟩, decide_eq_true h⟩
/- the first k parents are all unlike -/
def okC (p : Nat → Nat → UInt8) (k : Nat) : Prop := ∀ i j, i < j → j < k → ¬ same32 (p i) (p j)
theorem okC_zero (p : Nat → Nat → UInt8) : okC p 0 := fun i j _ h => absurd h (by omega)
theorem okC_succ {p : Nat → Nat → UInt8} {k : Nat} (h : okC p k) (h2 : ¬ among p k (p k)) : okC p (k + 1) := by
  intro i j hij hj
  by_cases c : j < k
  · exact h i j hij c
  · have e : j = k := by omega
    subst e
    exact fun h3 => h2 ⟨i, hij, h3⟩
theorem okC_not {p : Nat → Nat → UInt8} {k n : Nat} (hk : k < n) (h2 : among p k (p k)) : ¬ okC p n := by
  obtain ⟨i, hi, h⟩ := h2
  exact fun h3 => h3 i k hi hk h
theorem comOk_iff (c : Com) : comOk c ↔ c.n ≤ 4 ∧ c.text.length ≤ 64 ∧ okC c.par c.n := Iff.rfl
end Go.Proofs.Ytiajfhoiedkaaaa
