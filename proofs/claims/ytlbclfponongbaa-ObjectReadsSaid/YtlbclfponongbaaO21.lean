import Derived.Test.YtlbclfponongbaaO20
import Derived.Laws.StructEq
/- Equality of entries, of children, of objects. -/
namespace Go.Proofs.Ytlbclfponongbaa
open Go.RowKit Classical
theorem arr_extract (n o m : Nat) (f g : Nat → Value) (h : o + m ≤ n) (hg : ∀ i, i < m → f (o + i) = g i) : (arr n f).extract o (o + m) = arr m g := by
  apply Array.ext_getElem?
  intro i
  rw [Array.getElem?_extract, arr_size]
  by_cases hi : i < m
  · rw [if_pos (by omega), arr_get _ _ _ (by omega), arr_get _ _ _ hi, hg i hi]
  · rw [if_neg (by omega), Array.getElem?_eq_none (by rw [arr_size]; omega)]
theorem agg32 (w : World) : (isAgg 35).run Try.prog w = .ok true w := Try.isAgg35 w
theorem part_id (w : World) (n o : Nat) (f : Nat → Value) (g : Nat → UInt8) (h : o + 32 ≤ n) (hg : ∀ i, i < 32 → f (o + i) = bv g i) : (Go.part 35 (arr n f) o).run Try.prog w = .ok (.agg (arr 32 (bv g))) w := by
  unfold Go.part
  rw [Sem.run_bind, agg32, Result.andThen_ok]
  simp only [if_true, Sem.run_bind, Try.sizeOf35 w, Result.andThen_ok, Sem.run_pure]
  rw [arr_extract n o 32 f (bv g) h hg]
theorem part_one (w : World) (t : TypeId) (hz : (isAgg t).run Try.prog w = .ok false w) (n o : Nat) (f : Nat → Value) (h : o < n) : (Go.part t (arr n f) o).run Try.prog w = .ok (f o) w := by
  unfold Go.part
  rw [Sem.run_bind, hz, Result.andThen_ok, arr_get _ _ _ h]
  simp
theorem equalIn_id (w : World) (d : Nat) (f g : Nat → UInt8) : (Op.equalIn (d + 2) 35 (.agg (arr 32 (bv f))) (.agg (arr 32 (bv g)))).run Try.prog w = .ok (decide (same32 f g)) w := by
  rw [run_equalIn_arr8 w d 35 5 32 f g ty30 t5 (by kernel_rfl)]
  congr 2
theorem aggI (w : World) : (isAgg 3).run Try.prog w = .ok false w := Try.isAgg3 w
theorem aggS (w : World) : (isAgg 9).run Try.prog w = .ok false w := Try.isAgg9 w
theorem bs_eq (a b : List UInt8) : ((bs a).toList == (bs b).toList) = decide (a = b) := by
  rw [toList_bs, toList_bs]
  by_cases h : a = b
  · subst h; simp
  · rw [decide_eq_false h]; simpa using h
theorem eqE_iff (e f : Ent) : eqE e f ↔ e.name = f.name ∧ e.kind = f.kind ∧ same32 e.id f.id := Iff.rfl
theorem eI (w : World) (D : Nat) (hD : 1 ≤ D) (j k : Int) : (Op.equalIn D 3 (.int .i64 j) (.int .i64 k)).run Try.prog w = .ok (j == k) w := by
  obtain ⟨d, rfl⟩ : ∃ d, D = d + 1 := ⟨D - 1, by omega⟩
  exact run_equalIn_int (P := Try.prog) w d 3 .i64 .i64 j k (by kernel_rfl)
theorem eD (w : World) (D : Nat) (hD : 2 ≤ D) (f g : Nat → UInt8) : (Op.equalIn D 35 (.agg (arr 32 (bv f))) (.agg (arr 32 (bv g)))).run Try.prog w = .ok (decide (same32 f g)) w := by
  obtain ⟨d, rfl⟩ : ∃ d, D = d + 2 := ⟨D - 2, by omega⟩
  exact equalIn_id w d f g
theorem eS (w : World) (D : Nat) (hD : 1 ≤ D) (a b : List UInt8) : (Op.equalIn D 9 (.string (bs a)) (.string (bs b))).run Try.prog w = .ok (decide (a = b)) w := by
  obtain ⟨d, rfl⟩ : ∃ d, D = d + 1 := ⟨D - 1, by omega⟩
  have h := run_equalIn_string (P := Try.prog) w d 9 (bs a) (bs b) (by kernel_rfl)
  rw [bs_eq] at h
  exact h
theorem p0C (w : World) (f : Nat → UInt8) (j : Int) : (Go.part 35 (arr 33 (hv f j)) 0).run Try.prog w = .ok (.agg (arr 32 (bv f))) w := part_id w 33 0 (hv f j) f (by omega) (fun i hi => by unfold hv; rw [if_pos (by omega), Nat.zero_add]; rfl)
theorem p1C (w : World) (f : Nat → UInt8) (j : Int) : (Go.part 3 (arr 33 (hv f j)) 32).run Try.prog w = .ok (.int .i64 j) w := part_one w 3 (aggI w) 33 32 (hv f j) (by omega)
theorem eqC (w : World) (D : Nat) (hD : 2 ≤ D) (X Y : Array Value) (f g : Nat → UInt8) (j k : Int) (p0 : (Go.part 35 X 0).run Try.prog w = .ok (.agg (arr 32 (bv f))) w) (q0 : (Go.part 35 Y 0).run Try.prog w = .ok (.agg (arr 32 (bv g))) w) (p1 : (Go.part 3 X 32).run Try.prog w = .ok (.int .i64 j) w) (q1 : (Go.part 3 Y 32).run Try.prog w = .ok (.int .i64 k) w) :
    (Op.eqFields D X Y (Try.prog.fieldsOf 41).toList).run Try.prog w = .ok (decide (same32 f g) && (j == k)) w := by
  have s1 := eI w D (by omega) j k
  have s2 := eD w D hD f g
  generalize Value.agg (arr 32 (bv f)) = A at p0 s2
  generalize Value.agg (arr 32 (bv g)) = B at q0 s2
  generalize decide (same32 f g) = r at s2 ⊢
  simp only [Program.fieldsOf, Try.underlying41]
  unfold Op.eqFields
  rw [if_pos (by decide)]
  simp only [Sem.run_bind, p0, q0, s2, Result.andThen_ok]
  cases r
  · simp only [Bool.not_false, if_true, Sem.run_pure, Bool.false_and]
  · simp only [Bool.not_true, Bool.false_eq_true, if_false, Bool.true_and]
    unfold Op.eqFields
    rw [if_pos (by decide)]
    simp only [Sem.run_bind, p1, q1, s1, Result.andThen_ok]
    generalize (j == k) = r2
    cases r2
    · simp only [Bool.not_false, if_true, Sem.run_pure]
    · simp only [Bool.not_true, Bool.false_eq_true, if_false]
      unfold Op.eqFields
      simp only [Sem.run_pure]
theorem eqF (w : World) (D : Nat) (hD : 2 ≤ D) (X Y : Array Value) (a b : List UInt8) (f g : Nat → UInt8) (j k : Int) (p0 : (Go.part 9 X 0).run Try.prog w = .ok (.string (bs a)) w) (q0 : (Go.part 9 Y 0).run Try.prog w = .ok (.string (bs b)) w)
    (p1 : (Go.part 3 X 1).run Try.prog w = .ok (.int .i64 j) w) (q1 : (Go.part 3 Y 1).run Try.prog w = .ok (.int .i64 k) w) (p2 : (Go.part 35 X 2).run Try.prog w = .ok (.agg (arr 32 (bv f))) w) (q2 : (Go.part 35 Y 2).run Try.prog w = .ok (.agg (arr 32 (bv g))) w) :
    (Op.eqFields D X Y (Try.prog.fieldsOf 37).toList).run Try.prog w = .ok (decide (a = b) && ((j == k) && decide (same32 f g))) w := by
  have s0 := eS w D (by omega) a b
  have s1 := eI w D (by omega) j k
  have s2 := eD w D hD f g
  generalize Value.agg (arr 32 (bv f)) = A at p2 s2
  generalize Value.agg (arr 32 (bv g)) = B at q2 s2
  generalize Value.string (bs a) = C at p0 s0
  generalize Value.string (bs b) = E at q0 s0
  generalize decide (same32 f g) = r at s2 ⊢
  generalize decide (a = b) = r3 at s0 ⊢
  simp only [Program.fieldsOf, Try.underlying37]
  unfold Op.eqFields
  rw [if_pos (by decide)]
  simp only [Sem.run_bind, p0, q0, s0, Result.andThen_ok]
  cases r3
  · simp only [Bool.not_false, if_true, Sem.run_pure, Bool.false_and]
  · simp only [Bool.not_true, Bool.false_eq_true, if_false, Bool.true_and]
    unfold Op.eqFields
    rw [if_pos (by decide)]
    simp only [Sem.run_bind, p1, q1, s1, Result.andThen_ok]
    generalize (j == k) = r2
    cases r2
    · simp only [Bool.not_false, if_true, Sem.run_pure, Bool.false_and]
    · simp only [Bool.not_true, Bool.false_eq_true, if_false, Bool.true_and]
      unfold Op.eqFields
      rw [if_pos (by decide)]
      simp only [Sem.run_bind, p2, q2, s2, Result.andThen_ok]
      cases r
      · simp only [Bool.not_false, if_true, Sem.run_pure]
      · simp only [Bool.not_true, Bool.false_eq_true, if_false]
        unfold Op.eqFields
        simp only [Sem.run_pure]
theorem p0E (w : World) (e : Ent) : (Go.part 9 (arr 34 (ev e)) 0).run Try.prog w = .ok (.string (bs e.name)) w := part_one w 9 (aggS w) 34 0 (ev e) (by omega)
theorem p1E (w : World) (e : Ent) : (Go.part 3 (arr 34 (ev e)) 1).run Try.prog w = .ok (.int .i64 e.kind) w := part_one w 3 (aggI w) 34 1 (ev e) (by omega)
theorem p2E (w : World) (e : Ent) : (Go.part 35 (arr 34 (ev e)) 2).run Try.prog w = .ok (.agg (arr 32 (bv e.id))) w := part_id w 34 2 (ev e) e.id (by omega) (fun i _ => ev_id e i)
theorem sC : Try.prog.underlying 41 = some (.struct (Try.prog.fieldsOf 41)) := by kernel_rfl
theorem sCh : Try.prog.stoodInHeld 41 = false := by kernel_rfl
theorem sE : Try.prog.underlying 37 = some (.struct (Try.prog.fieldsOf 37)) := by kernel_rfl
theorem sEh : Try.prog.stoodInHeld 37 = false := by kernel_rfl
theorem equalIn_entry (w : World) (D : Nat) (hD : 3 ≤ D) (e f : Ent) : (Op.equalIn D 37 (.agg (arr 34 (ev e))) (.agg (arr 34 (ev f)))).run Try.prog w = .ok (decide (eqE e f)) w := by
  have h := eqF w (D - 1) (by omega) _ _ _ _ _ _ _ _ (p0E w e) (p0E w f) (p1E w e) (p1E w f) (p2E w e) (p2E w f)
  have hd : (decide (e.name = f.name) && ((e.kind == f.kind) && decide (same32 e.id f.id))) = decide (eqE e f) := by
    apply Bool.eq_iff_iff.2
    rw [Bool.and_eq_true, Bool.and_eq_true, decide_eq_true_iff, decide_eq_true_iff, decide_eq_true_iff, beq_iff_eq]
    exact Iff.rfl
  rw [hd] at h
  obtain ⟨d, rfl⟩ : ∃ d, D = d + 1 := ⟨D - 1, by omega⟩
  rw [run_equalIn_struct w d 37 _ _ sE sEh]
  exact h
theorem equalIn_child (w : World) (D : Nat) (hD : 3 ≤ D) (f g : Nat → UInt8) (j k : Int) : (Op.equalIn D 41 (.agg (arr 33 (hv f j))) (.agg (arr 33 (hv g k)))).run Try.prog w = .ok (decide (same32 f g ∧ j = k)) w := by
  have h := eqC w (D - 1) (by omega) _ _ _ _ _ _ (p0C w f j) (p0C w g k) (p1C w f j) (p1C w g k)
  have hd : (decide (same32 f g) && (j == k)) = decide (same32 f g ∧ j = k) := by
    apply Bool.eq_iff_iff.2
    rw [Bool.and_eq_true, decide_eq_true_iff, decide_eq_true_iff, beq_iff_eq]
  rw [hd] at h
  obtain ⟨d, rfl⟩ : ∃ d, D = d + 1 := ⟨D - 1, by omega⟩
  rw [run_equalIn_struct w d 41 _ _ sC sCh]
  exact h
theorem eqlEntry (e f : Ent) (w : World) : (binOp .eql 37 (.agg (arr 34 (ev e))) (.agg (arr 34 (ev f)))).run Try.prog w = .ok (.bool (decide (eqE e f))) w := by
  rw [run_eql_struct, equalIn_entry _ _ (by omega)]; rfl
theorem neqEntry (e f : Ent) (w : World) : (binOp .neq 37 (.agg (arr 34 (ev e))) (.agg (arr 34 (ev f)))).run Try.prog w = .ok (.bool (!decide (eqE e f))) w := by
  rw [run_neq_struct, equalIn_entry _ _ (by omega)]; rfl
theorem eqlChild (f g : Nat → UInt8) (j k : Int) (w : World) : (binOp .eql 41 (.agg (arr 33 (hv f j))) (.agg (arr 33 (hv g k)))).run Try.prog w = .ok (.bool (decide (same32 f g ∧ j = k))) w := by
  rw [run_eql_struct, equalIn_child _ _ (by omega)]; rfl
theorem neqChild (f g : Nat → UInt8) (j k : Int) (w : World) : (binOp .neq 41 (.agg (arr 33 (hv f j))) (.agg (arr 33 (hv g k)))).run Try.prog w = .ok (.bool (!decide (same32 f g ∧ j = k))) w := by
  rw [run_neq_struct, equalIn_child _ _ (by omega)]; rfl
/- one tree has one list of entries -/
theorem tree_one {l : List UInt8} {es fs : Nat → Ent} {n m : Nat} (h1 : IsTree l es n) (h2 : IsTree l fs m) : n = m ∧ ∀ i, i < n → eqE (es i) (fs i) := by
  have key : ∀ k, k ≤ n → k ≤ m ∧ (tb es k).length = (tb fs k).length ∧ ∀ i, i < k → eqE (es i) (fs i) := by
    intro k
    induction k with
    | zero => exact fun _ => ⟨Nat.zero_le _, rfl, fun i hi => absurd hi (by omega)⟩
    | succ k ih =>
      intro hk
      obtain ⟨a1, a2, a3⟩ := ih (by omega)
      have hlt : (tb es k).length < l.length := by rw [h1.2]; exact tb_pos es hk
      have hkm : k < m := by
        by_cases c : k < m
        · exact c
        · have e : k = m := by omega
          subst e
          rw [a2, ← h2.2] at hlt
          omega
      obtain ⟨R, hR⟩ := tb_split es (k + 1) n hk
      obtain ⟨S, hS⟩ := tb_split fs (k + 1) m hkm
      have d1 : l.drop (tb es k).length = eb (es k) ++ R := by
        rw [h1.2, hR]
        show (tb es k ++ eb (es k) ++ R).drop _ = _
        rw [List.append_assoc, List.drop_append_of_le_length (Nat.le_refl _), List.drop_length, List.nil_append]
      have d2 : l.drop (tb es k).length = eb (fs k) ++ S := by
        rw [h2.2, hS, a2]
        show (tb fs k ++ eb (fs k) ++ S).drop _ = _
        rw [List.append_assoc, List.drop_append_of_le_length (Nat.le_refl _), List.drop_length, List.nil_append]
      obtain ⟨r1, r2, r3⟩ := read_ent (by omega) d1 (h1.1.2.1 k (by omega)).2 (h1.1.2.1 k (by omega)).1.2.1
      obtain ⟨s1, s2, s3⟩ := read_ent (by omega) d2 (h2.1.2.1 k hkm).2 (h2.1.2.1 k hkm).1.2.1
      rw [r1] at s1
      simp only [Prod.mk.injEq, and_true] at s1
      obtain ⟨t1, t2⟩ := s1
      rw [← t1] at s2 s3
      rw [r2] at s2
      simp only [Prod.mk.injEq, and_true] at s2
      obtain ⟨u1, u2⟩ := s2
      rw [← u1, r3] at s3
      simp only [Prod.mk.injEq, and_true] at s3
      obtain ⟨v1, v2⟩ := s3
      have k1 := (kind_clamp (h1.1.2.1 k (by omega)).2).2.1
      have k2 := (kind_clamp (h2.1.2.1 k hkm).2).2.1
      have eq : eqE (es k) (fs k) := ⟨u1, by omega, idL_inj v1⟩
      refine ⟨hkm, ?_, fun i hi => ?_⟩
      · show (tb es k ++ eb (es k)).length = (tb fs k ++ eb (fs k)).length
        rw [List.length_append, List.length_append, a2, eq.bytes]
      · by_cases c : i < k
        · exact a3 i c
        · rw [show i = k by omega]; exact eq
  obtain ⟨a1, a2, a3⟩ := key n (Nat.le_refl _)
  refine ⟨?_, a3⟩
  by_cases c : n < m
  · have := tb_pos fs c
    rw [← h2.2, ← a2, ← h1.2] at this
    omega
  · omega
end Go.Proofs.Ytlbclfponongbaa
