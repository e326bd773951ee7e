import Derived.Test.YtlbclfponongbaaO24
/- The law's function of ObjectBack. -/
namespace Go.Proofs.Ytlbclfponongbaa
open Go.RowKit Classical
theorem sO : Try.prog.underlying 24 = some (.struct (Try.prog.fieldsOf 24)) := by kernel_rfl
theorem sOh : Try.prog.stoodInHeld 24 = false := by kernel_rfl
theorem p0O (w : World) (k : Int) (l : List UInt8) : (Go.part 3 (arr 2 (ov k l)) 0).run Try.prog w = .ok (.int .i64 k) w := part_one w 3 (aggI w) 2 0 (ov k l) (by omega)
theorem p1O (w : World) (k : Int) (l : List UInt8) : (Go.part 9 (arr 2 (ov k l)) 1).run Try.prog w = .ok (.string (bs l)) w := part_one w 9 (aggS w) 2 1 (ov k l) (by omega)
theorem eqO (w : World) (D : Nat) (hD : 1 ≤ D) (X Y : Array Value) (a b : List UInt8) (j k : Int) (p0 : (Go.part 3 X 0).run Try.prog w = .ok (.int .i64 j) w) (q0 : (Go.part 3 Y 0).run Try.prog w = .ok (.int .i64 k) w)
    (p1 : (Go.part 9 X 1).run Try.prog w = .ok (.string (bs a)) w) (q1 : (Go.part 9 Y 1).run Try.prog w = .ok (.string (bs b)) w) :
    (Op.eqFields D X Y (Try.prog.fieldsOf 24).toList).run Try.prog w = .ok ((j == k) && decide (a = b)) w := by
  have s0 := eS w D (by omega) a b
  have s1 := eI w D (by omega) j k
  generalize Value.string (bs a) = C at p1 s0
  generalize Value.string (bs b) = E at q1 s0
  generalize decide (a = b) = r at s0 ⊢
  simp only [Program.fieldsOf, Try.underlying24]
  unfold Op.eqFields
  rw [if_pos (by decide)]
  simp only [Sem.run_bind, p0, q0, s1, Result.andThen_ok]
  generalize (j == k) = r2
  cases r2
  · simp only [Bool.not_false, if_true, Sem.run_pure, Bool.false_and]
  · simp only [Bool.not_true, Bool.false_eq_true, if_false, Bool.true_and]
    unfold Op.eqFields
    rw [if_pos (by decide)]
    simp only [Sem.run_bind, p1, q1, s0, Result.andThen_ok]
    cases r
    · simp only [Bool.not_false, if_true, Sem.run_pure]
    · simp only [Bool.not_true, Bool.false_eq_true, if_false]
      unfold Op.eqFields
      simp only [Sem.run_pure]
theorem equalIn_obj (w : World) (D : Nat) (hD : 2 ≤ D) (j k : Int) (a b : List UInt8) : (Op.equalIn D 24 (.agg (arr 2 (ov j a))) (.agg (arr 2 (ov k b)))).run Try.prog w = .ok (decide (j = k ∧ a = b)) w := by
  have h := eqO w (D - 1) (by omega) _ _ _ _ _ _ (p0O w j a) (p0O w k b) (p1O w j a) (p1O w k b)
  have hd : ((j == k) && decide (a = b)) = decide (j = k ∧ a = b) := by
    apply Bool.eq_iff_iff.2
    rw [Bool.and_eq_true, decide_eq_true_iff, decide_eq_true_iff, beq_iff_eq]
  rw [hd] at h
  obtain ⟨d, rfl⟩ : ∃ d, D = d + 1 := ⟨D - 1, by omega⟩
  rw [run_equalIn_struct w d 24 _ _ sO sOh]
  exact h
theorem eqlObj (j k : Int) (a b : List UInt8) (w : World) : (binOp .eql 24 (.agg #[.int .i64 j, .string (bs a)]) (.agg #[.int .i64 k, .string (bs b)])).run Try.prog w = .ok (.bool (decide (j = k ∧ a = b))) w := by
  rw [ov_arr, ov_arr, run_eql_struct, equalIn_obj _ _ (by omega)]; rfl
theorem neqObj (j k : Int) (a b : List UInt8) (w : World) : (binOp .neq 24 (.agg #[.int .i64 j, .string (bs a)]) (.agg #[.int .i64 k, .string (bs b)])).run Try.prog w = .ok (.bool (!decide (j = k ∧ a = b))) w := by
  rw [ov_arr, ov_arr, run_neq_struct, equalIn_obj _ _ (by omega)]; rfl
/- an object's block, and what was there, stay -/
structure Ob (w0 : World) (z : Nat) (k : Int) (l : List UInt8) (w : World) : Prop where
  keep : Below w0.heap.size w0 w
  blk : Blk w z 24 2 (ov k l)
theorem Ob.step {w0 : World} {z : Nat} {k : Int} {l : List UInt8} {w w' : World} (h : Ob w0 z k l w) (hb : Below w.heap.size w w') : Ob w0 z k l w' := ⟨h.keep.trans (hb.mono h.keep.size), h.blk.below hb h.blk.lt⟩
theorem Ob.alloc {w0 : World} {z : Nat} {k : Int} {l : List UInt8} {w : World} (h : Ob w0 z k l w) (o : Obj) : Ob w0 z k l (w.alloc o) := h.step ((Below.refl _ _).alloc (Nat.le_refl _) o)
theorem Ob.cells {w0 : World} {z : Nat} {k : Int} {l : List UInt8} {w : World} (h : Ob w0 z k l w) : w.cell? ⟨z, 0, none⟩ = some (.int .i64 k) ∧ w.cell? ⟨z, 1, none⟩ = some (.string (bs l)) := ⟨h.blk.cell 0 (by omega), h.blk.cell 1 (by omega)⟩
theorem Ob.start (w : World) (k : Int) (l : List UInt8) : Ob w w.heap.size k l (w.alloc (.cells #[.int .i64 k, .string (bs l)] 24)) := ⟨(Below.refl _ _).alloc (Nat.le_refl _) _, Blk.newAt _ (heap_alloc_new _ _) rfl⟩
end Go.Proofs.Ytlbclfponongbaa
