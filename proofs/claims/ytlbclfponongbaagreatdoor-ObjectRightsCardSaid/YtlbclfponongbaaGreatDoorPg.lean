import Derived.Test.YtlbclfponongbaaGreatDoorV1m
import Derived.Laws.StructEq
/- Equality of arrays of bytes. -/
namespace Go.Proofs.YtlbclfponongbaaGreatDoor
open Go.RowKit
section
variable {P : Program}
theorem run_equalIn_arr8 (w : World) (d : Nat) (t e : TypeId) (n : Nat) (f g : Nat → UInt8) (ht : P.underlying t = some (.array n e)) (he : P.underlying e = some (.int .u8)) (hs : (P.info? e).map (·.size) = some 1) :
    (Op.equalIn (d + 2) t (.agg (arr n (bv f))) (.agg (arr n (bv g)))).run P w = .ok (decide (∀ i, i < n → f i = g i)) w := by
  cases hq : P.info? e with
  | none => simp [hq] at hs
  | some i =>
    have hd : i.size = 1 := by simpa [hq] using hs
    have hagg : (isAgg e).run P w = .ok false w := by
      unfold isAgg
      rw [Sem.run_bind, run_underlying he w]; rfl
    have hp : ∀ (h : Nat → UInt8) (j : Nat), j < n → (part e (arr n (bv h)) j).run P w = .ok (bv h j) w := fun h j hj => by
      unfold part
      rw [Sem.run_bind, hagg]
      simp [arr_get n (bv h) j hj]
    have hz : (sizeOf e).run P w = .ok 1 w := by simp [sizeOf, typeInfo, hq, hd]
    unfold Op.equalIn
    simp only [Sem.run_bind, run_underlying ht, Result.andThen_ok, hz, Std.Legacy.Range.forIn_eq_forIn_range', Nat.mul_one]
    have key : ∀ l : List Nat, (∀ j, j ∈ l → j < n) → (forIn l (none, ()) (fun i (_ : Option Bool × Unit) => do
            let a ← part e (arr n (bv f)) i
            let b ← part e (arr n (bv g)) i
            let r ← Op.equalIn (d + 1) e a b
            if (!r) = true then pure (ForInStep.done (some false, ())) else pure (ForInStep.yield (none, ())))).run P w = .ok (if ∀ j, j ∈ l → f j = g j then ((none : Option Bool), ()) else (some false, ())) w := by
      intro l
      induction l with
      | nil => intro _; simp
      | cons j l ih =>
        intro hl
        have hj := hl j (by simp)
        have he2 : (Op.equalIn (d + 1) e (bv f j) (bv g j)).run P w = .ok (((f j).toNat : Int) == ((g j).toNat : Int)) w := run_equalIn_int w d e .u8 .u8 _ _ he
        simp only [List.forIn_cons, Sem.run_bind, hp f j hj, hp g j hj, Result.andThen_ok, he2]
        by_cases c : f j = g j
        · have e1 : (((f j).toNat : Int) == ((g j).toNat : Int)) = true := by rw [c]; simp
          rw [e1]
          simp only [Bool.not_true, Bool.false_eq_true, if_false, Sem.run_pure, Result.andThen_ok]
          rw [ih (fun k hk => hl k (by simp [hk]))]
          have e2 : (∀ k, k ∈ j :: l → f k = g k) ↔ (∀ k, k ∈ l → f k = g k) := by simp [c]
          simp only [e2]
        · have e1 : (((f j).toNat : Int) == ((g j).toNat : Int)) = false := beq_eq_false_iff_ne.2 (fun h => c (UInt8.toNat_inj.1 (by omega)))
          rw [e1]
          simp only [Bool.not_false, if_true, Sem.run_pure, Result.andThen_ok]
          rw [if_neg (fun h => c (h j (by simp)))]
    rw [key _ (fun j hj => by simp [Std.Legacy.Range.size] at hj; omega)]
    have e3 : (∀ j, j ∈ List.range' 0 [:n].size → f j = g j) ↔ (∀ i, i < n → f i = g i) := by simp [Std.Legacy.Range.size]
    simp only [e3]
    by_cases c : ∀ i, i < n → f i = g i
    · rw [if_pos c, decide_eq_true c]; simp
    · rw [if_neg c, decide_eq_false c]; simp
theorem run_eql_arr8 (w : World) (t e : TypeId) (n : Nat) (f g : Nat → UInt8) (ht : P.underlying t = some (.array n e)) (he : P.underlying e = some (.int .u8)) (hs : (P.info? e).map (·.size) = some 1) :
    (binOp .eql t (.agg (arr n (bv f))) (.agg (arr n (bv g)))).run P w = .ok (.bool (decide (∀ i, i < n → f i = g i))) w := by
  rw [run_eql_struct, run_equalIn_arr8 w 9998 t e n f g ht he hs]; rfl
theorem run_neq_arr8 (w : World) (t e : TypeId) (n : Nat) (f g : Nat → UInt8) (ht : P.underlying t = some (.array n e)) (he : P.underlying e = some (.int .u8)) (hs : (P.info? e).map (·.size) = some 1) :
    (binOp .neq t (.agg (arr n (bv f))) (.agg (arr n (bv g)))).run P w = .ok (.bool (!decide (∀ i, i < n → f i = g i))) w := by
  rw [run_neq_struct, run_equalIn_arr8 w 9998 t e n f g ht he hs]; rfl
end
theorem eq_arr (f g : Nat → UInt8) (h : ∀ i, i < 32 → f i = g i) (w : World) : (binOp .eql 29 (.agg (arr 32 (bv f))) (.agg (arr 32 (bv g)))).run Tryz.prog w = .ok (.bool true) w := by
  rw [run_eql_arr8 w 29 5 32 f g ty30 t5 (by kernel_rfl), decide_eq_true h]
theorem neq_arr (f g : Nat → UInt8) (h : ∀ i, i < 32 → f i = g i) (w : World) : (binOp .neq 29 (.agg (arr 32 (bv f))) (.agg (arr 32 (bv g)))).run Tryz.prog w = .ok (.bool false) w := by
  rw [run_neq_arr8 w 29 5 32 f g ty30 t5 (by kernel_rfl), decide_eq_true h]; rfl
end Go.Proofs.YtlbclfponongbaaGreatDoor
