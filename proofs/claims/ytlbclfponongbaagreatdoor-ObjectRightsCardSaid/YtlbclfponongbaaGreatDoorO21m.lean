import Derived.Test.YtlbclfponongbaaGreatDoorO20
import Derived.Laws.StructEq
/- Equality of entries, of children, of objects. -/
namespace Go.Proofs.YtlbclfponongbaaGreatDoor
open Go.RowKit Classical
theorem arr_extract (n o m : Nat) (f g : Nat → Value) (h : o + m ≤ n) (hg : ∀ i, i < m → f (o + i) = g i) : (arr n f).extract o (o + m) = arr m g := by
  apply Array.ext_getElem?
  intro i
  rw [Array.getElem?_extract, arr_size]
  by_cases hi : i < m
  · rw [if_pos (by omega), arr_get _ _ _ (by omega), arr_get _ _ _ hi, hg i hi]
  · rw [if_neg (by omega), Array.getElem?_eq_none (by rw [arr_size]; omega)]
theorem agg32 (w : World) : (isAgg 29).run Tryz.prog w = .ok true w := Tryz.isAgg29 w
theorem part_id (w : World) (n o : Nat) (f : Nat → Value) (g : Nat → UInt8) (h : o + 32 ≤ n) (hg : ∀ i, i < 32 → f (o + i) = bv g i) : (Go.part 29 (arr n f) o).run Tryz.prog w = .ok (.agg (arr 32 (bv g))) w := by
  unfold Go.part
  rw [Sem.run_bind, agg32, Result.andThen_ok]
  simp only [if_true, Sem.run_bind, Tryz.sizeOf29 w, Result.andThen_ok, Sem.run_pure]
  rw [arr_extract n o 32 f (bv g) h hg]
theorem part_one (w : World) (t : TypeId) (hz : (isAgg t).run Tryz.prog w = .ok false w) (n o : Nat) (f : Nat → Value) (h : o < n) : (Go.part t (arr n f) o).run Tryz.prog w = .ok (f o) w := by
  unfold Go.part
  rw [Sem.run_bind, hz, Result.andThen_ok, arr_get _ _ _ h]
  simp
theorem equalIn_id (w : World) (d : Nat) (f g : Nat → UInt8) : (Op.equalIn (d + 2) 29 (.agg (arr 32 (bv f))) (.agg (arr 32 (bv g)))).run Tryz.prog w = .ok (decide (same32 f g)) w := by
  rw [run_equalIn_arr8 w d 29 5 32 f g ty30 t5 (by kernel_rfl)]
  congr 2
theorem aggI (w : World) : (isAgg 3).run Tryz.prog w = .ok false w := Tryz.isAgg3 w
theorem aggS (w : World) : (isAgg 9).run Tryz.prog w = .ok false w := Tryz.isAgg9 w
theorem bs_eq (a b : List UInt8) : ((bs a).toList == (bs b).toList) = decide (a = b) := by
  rw [toList_bs, toList_bs]
  by_cases h : a = b
  · subst h; simp
  · rw [decide_eq_false h]; simpa using h
theorem eqE_iff (e f : Ent) : eqE e f ↔ e.name = f.name ∧ e.kind = f.kind ∧ same32 e.id f.id := Iff.rfl
theorem eI (w : World) (D : Nat) (hD : 1 ≤ D) (j k : Int) : (Op.equalIn D 3 (.int .i64 j) (.int .i64 k)).run Tryz.prog w = .ok (j == k) w := by
  obtain ⟨d, rfl⟩ : ∃ d, D = d + 1 := ⟨D - 1, by omega⟩
  exact run_equalIn_int (P := Tryz.prog) w d 3 .i64 .i64 j k (by kernel_rfl)
theorem eD (w : World) (D : Nat) (hD : 2 ≤ D) (f g : Nat → UInt8) : (Op.equalIn D 29 (.agg (arr 32 (bv f))) (.agg (arr 32 (bv g)))).run Tryz.prog w = .ok (decide (same32 f g)) w := by
  obtain ⟨d, rfl⟩ : ∃ d, D = d + 2 := ⟨D - 2, by omega⟩
  exact equalIn_id w d f g
theorem eS (w : World) (D : Nat) (hD : 1 ≤ D) (a b : List UInt8) : (Op.equalIn D 9 (.string (bs a)) (.string (bs b))).run Tryz.prog w = .ok (decide (a = b)) w := by
  obtain ⟨d, rfl⟩ : ∃ d, D = d + 1 := ⟨D - 1, by omega⟩
  have h := run_equalIn_string (P := Tryz.prog) w d 9 (bs a) (bs b) (by kernel_rfl)
  rw [bs_eq] at h
  exact h
theorem p0C (w : World) (f : Nat → UInt8) (j : Int) : (Go.part 29 (arr 33 (hv f j)) 0).run Tryz.prog w = .ok (.agg (arr 32 (bv f))) w := part_id w 33 0 (hv f j) f (by omega) (fun i hi => by unfold hv; rw [if_pos (by omega), Nat.zero_add]; rfl)
theorem p1C (w : World) (f : Nat → UInt8) (j : Int) : (Go.part 3 (arr 33 (hv f j)) 32).run Tryz.prog w = .ok (.int .i64 j) w := part_one w 3 (aggI w) 33 32 (hv f j) (by omega)
theorem eqC (w : World) (D : Nat) (hD : 2 ≤ D) (X Y : Array Value) (f g : Nat → UInt8) (j k : Int) (p0 : (Go.part 29 X 0).run Tryz.prog w = .ok (.agg (arr 32 (bv f))) w) (q0 : (Go.part 29 Y 0).run Tryz.prog w = .ok (.agg (arr 32 (bv g))) w) (p1 : (Go.part 3 X 32).run Tryz.prog w = .ok (.int .i64 j) w) (q1 : (Go.part 3 Y 32).run Tryz.prog w = .ok (.int .i64 k) w) :
    (Op.eqFields D X Y (Tryz.prog.fieldsOf 58).toList).run Tryz.prog w = .ok (decide (same32 f g) && (j == k)) w := by
  have s1 := eI w D (by omega) j k
  have s2 := eD w D hD f g
  generalize Value.agg (arr 32 (bv f)) = A at p0 s2
  generalize Value.agg (arr 32 (bv g)) = B at q0 s2
  generalize decide (same32 f g) = r at s2 ⊢
  simp only [Program.fieldsOf, Tryz.underlying58]
  unfold Op.eqFields
  rw [if_pos (by decide)]
  simp only [Sem.run_bind, p0, q0, s2, Result.andThen_ok]
  cases r
  · simp only [Bool.not_false, if_true, Sem.run_pure, Bool.false_and]
  · simp only [Bool.not_true, Bool.false_eq_true, if_false, Bool.true_and]
    unfold Op.eqFields
    rw [if_pos (by decide)]
    simp only [Sem.run_bind, p1, q1, s1, Result.andThen_ok]
    generalize (j == k) = r2
    cases r2
    · simp only [Bool.not_false, if_true, Sem.run_pure]
    · simp only [Bool.not_true, Bool.false_eq_true, if_false]
      unfold Op.eqFields
      simp only [Sem.run_pure]
theorem eqF (w : World) (D : Nat) (hD : 2 ≤ D) (X Y : Array Value) (a b : List UInt8) (f g : Nat → UInt8) (j k : Int) (p0 : (Go.part 9 X 0).run Tryz.prog w = .ok (.string (bs a)) w) (q0 : (Go.part 9 Y 0).run Tryz.prog w = .ok (.string (bs b)) w)
    (p1 : (Go.part 3 X 1).run Tryz.prog w = .ok (.int .i64 j) w) (q1 : (Go.part 3 Y 1).run Tryz.prog w = .ok (.int .i64 k) w) (p2 : (Go.part 29 X 2).run Tryz.prog w = .ok (.agg (arr 32 (bv f))) w) (q2 : (Go.part 29 Y 2).run Tryz.prog w = .ok (.agg (arr 32 (bv g))) w) :
    (Op.eqFields D X Y (Tryz.prog.fieldsOf 56).toList).run Tryz.prog w = .ok (decide (a = b) && ((j == k) && decide (same32 f g))) w := by
  have s0 := eS w D (by omega) a b
  have s1 := eI w D (by omega) j k
  have s2 := eD w D hD f g
  generalize Value.agg (arr 32 (bv f)) = A at p2 s2
  generalize Value.agg (arr 32 (bv g)) = B at q2 s2
  generalize Value.string (bs a) = C at p0 s0
  generalize Value.string (bs b) = E at q0 s0
  generalize decide (same32 f g) = r at s2 ⊢
  generalize decide (a = b) = r3 at s0 ⊢
  simp only [Program.fieldsOf, Tryz.underlying56]
  unfold Op.eqFields
  rw [if_pos (by decide)]
  simp only [Sem.run_bind, p0, q0, s0, Result.andThen_ok]
  cases r3
  · simp only [Bool.not_false, if_true, Sem.run_pure, Bool.false_and]
  · simp only [Bool.not_true, Bool.false_eq_true, if_false, Bool.true_and]
    unfold Op.eqFields
    rw [if_pos (by decide)]
    simp only [Sem.run_bind, p1, q1, s1, Result.andThen_ok]
    generalize (j == k) = r2
    cases r2
    · simp only [Bool.not_false, if_true, Sem.run_pure, Bool.false_and]
    · simp only [Bool.not_true, Bool.false_eq_true, if_false, Bool.true_and]
      unfold Op.eqFields
      rw [if_pos (by decide)]
      simp only [Sem.run_bind, p2, q2, s2, Result.andThen_ok]
      cases r
      · simp only [Bool.not_false, if_true, Sem.run_pure]
      · simp only [Bool.not_true, Bool.false_eq_true, if_false]
        unfold Op.eqFields
        simp only [Sem.run_pure]
theorem p0E (w : World) (e : Ent) : (Go.part 9 (arr 34 (ev e)) 0).run Tryz.prog w = .ok (.string (bs e.name)) w := part_one w 9 (aggS w) 34 0 (ev e) (by omega)
theorem p1E (w : World) (e : Ent) : (Go.part 3 (arr 34 (ev e)) 1).run Tryz.prog w = .ok (.int .i64 e.kind) w := part_one w 3 (aggI w) 34 1 (ev e) (by omega)
theorem p2E (w : World) (e : Ent) : (Go.part 29 (arr 34 (ev e)) 2).run Tryz.prog w = .ok (.agg (arr 32 (bv e.id))) w := part_id w 34 2 (ev e) e.id (by omega) (fun i _ => ev_id e i)
theorem sC : Tryz.prog.underlying 58 = some (.struct (Tryz.prog.fieldsOf 58)) := by kernel_rfl
theorem sCh : Tryz.prog.stoodInHeld 58 = false := by kernel_rfl
theorem sE : Tryz.prog.underlying 56 = some (.struct (Tryz.prog.fieldsOf 56)) := by kernel_rfl
theorem sEh : Tryz.prog.stoodInHeld 56 = false := by kernel_rfl
theorem equalIn_entry (w : World) (D : Nat) (hD : 3 ≤ D) (e f : Ent) : (Op.equalIn D 56 (.agg (arr 34 (ev e))) (.agg (arr 34 (ev f)))).run Tryz.prog w = .ok (decide (eqE e f)) w := by
  have h := eqF w (D - 1) (by omega) _ _ _ _ _ _ _ _ (p0E w e) (p0E w f) (p1E w e) (p1E w f) (p2E w e) (p2E w f)
  have hd : (decide (e.name = f.name) && ((e.kind == f.kind) && decide (same32 e.id f.id))) = decide (eqE e f) := by
    apply Bool.eq_iff_iff.2
    rw [Bool.and_eq_true, Bool.and_eq_true, decide_eq_true_iff, decide_eq_true_iff, decide_eq_true_iff, beq_iff_eq]
    exact Iff.rfl
  rw [hd] at h
  obtain ⟨d, rfl⟩ : ∃ d, D = d + 1 := ⟨D - 1, by omega⟩
  rw [run_equalIn_struct w d 56 _ _ sE sEh]
  exact h
theorem equalIn_child (w : World) (D : Nat) (hD : 3 ≤ D) (f g : Nat → UInt8) (j k : Int) : (Op.equalIn D 58 (.agg (arr 33 (hv f j))) (.agg (arr 33 (hv g k)))).run Tryz.prog w = .ok (decide (same32 f g ∧ j = k)) w := by
  have h := eqC w (D - 1) (by omega) _ _ _ _ _ _ (p0C w f j) (p0C w g k) (p1C w f j) (p1C w g k)
  have hd : (decide (same32 f g) && (j == k)) = decide (same32 f g ∧ j = k) := by
    apply Bool.eq_iff_iff.2
    rw [Bool.and_eq_true, decide_eq_true_iff, decide_eq_true_iff, beq_iff_eq]
  rw [hd] at h
  obtain ⟨d, rfl⟩ : ∃ d, D = d + 1 := ⟨D - 1, by omega⟩
  rw [run_equalIn_struct w d 58 _ _ sC sCh]
  exact h
theorem eqlEntry (e f : Ent) (w : World) : (binOp .eql 56 (.agg (arr 34 (ev e))) (.agg (arr 34 (ev f)))).run Tryz.prog w = .ok (.bool (decide (eqE e f))) w := by
  rw [run_eql_struct, equalIn_entry _ _ (by omega)]; rfl
theorem neqEntry (e f : Ent) (w : World) : (binOp .neq 56 (.agg (arr 34 (ev e))) (.agg (arr 34 (ev f)))).run Tryz.prog w = .ok (.bool (!decide (eqE e f))) w := by
  rw [run_neq_struct, equalIn_entry _ _ (by omega)]; rfl
theorem eqlChild (f g : Nat → UInt8) (j k : Int) (w : World) : (binOp .eql 58 (.agg (arr 33 (hv f j))) (.agg (arr 33 (hv g k)))).run Tryz.prog w = .ok (.bool (decide (same32 f g ∧ j = k))) w := by
  rw [run_eql_struct, equalIn_child _ _ (by omega)]; rfl
theorem neqChild (f g : Nat → UInt8) (j k : Int) (w : World) : (binOp .neq 58 (.agg (arr 33 (hv f j))) (.agg (arr 33 (hv g k)))).run Tryz.prog w = .ok (.bool (!decide (same32 f g ∧ j = k))) w := by
  rw [run_neq_struct, equalIn_child _ _ (by omega)]; rfl
/- one tree has one list of entries -/
theorem tree_one {l : List UInt8} {es fs : Nat → Ent} {n m : Nat} (h1 : IsTree l es n) (h2 : IsTree l fs m) : n = m ∧ ∀ i, i < n → eqE (es i) (fs i) := by
  have key : ∀ k, k ≤ n → k ≤ m ∧ (tb es k).length = (tb fs k).length ∧ ∀ i, i < k → eqE (es i) (fs i) := by
    intro k
    induction k with
    | zero => exact fun _ => ⟨Nat.zero_le _, rfl, fun i hi => absurd hi (by omega)⟩
    | succ k ih =>
      intro hk
      obtain ⟨a1, a2, a3⟩ := ih (by omega)
      have hlt : (tb es k).length < l.length := by rw [h1.2]; exact tb_pos es hk
      have hkm : k < m := by
        by_cases c : k < m
        · exact c
        · have e : k = m := by omega
          subst e
          rw [a2, ← h2.2] at hlt
          omega
      obtain ⟨R, hR⟩ := tb_split es (k + 1) n hk
      obtain ⟨S, hS⟩ := tb_split fs (k + 1) m hkm
      have d1 : l.drop (tb es k).length = eb (es k) ++ R := by
        rw [h1.2, hR]
        show (tb es k ++ eb (es k) ++ R).drop _ = _
        rw [List.append_assoc, List.drop_append_of_le_length (Nat.le_refl _), List.drop_length, List.nil_append]
      have d2 : l.drop (tb es k).length = eb (fs k) ++ S := by
        rw [h2.2, hS, a2]
        show (tb fs k ++ eb (fs k) ++ S).drop _ = _
        rw [List.append_assoc, List.drop_append_of_le_length (Nat.le_refl _), List.drop_length, List.nil_append]
      obtain ⟨r1, r2, r3⟩ := read_ent (by omega) d1 (h1.1.2.1 k (by omega)).2 (h1.1.2.1 k (by omega)).1.2.1
      obtain ⟨s1, s2, s3⟩ := read_ent (by omega) d2 (h2.1.2.1 k hkm).2 (h2.1.2.1 k hkm).1.2.1
      rw [r1] at s1
      simp only [Prod.mk.injEq, and_true] at s1
      obtain ⟨t1, t2⟩ := s1
      rw [← t1] at s2 s3
      rw [r2] at s2
      simp only [Prod.mk.injEq, and_true] at s2
      obtain ⟨u1, u2⟩ := s2
      rw [← u1, r3] at s3
      simp only [Prod.mk.injEq, and_true] at s3
      obtain ⟨v1, v2⟩ := s3
      have k1 := (kind_clamp (h1.1.2.1 k (by omega)).2).2.1
      have k2 := (kind_clamp (h2.1.2.1 k hkm).2).2.1
      have eq : eqE (es k) (fs k) := ⟨u1, by omega, idL_inj v1⟩
      refine ⟨hkm, ?_, fun i hi => ?_⟩
      · show (tb es k ++ eb (es k)).length = (tb fs k ++ eb (fs k)).length
        rw [List.length_append, List.length_append, a2, eq.bytes]
      · by_cases c : i < k
        · exact a3 i c
        · rw [show i = k by omega]; exact eq
  obtain ⟨a1, a2, a3⟩ := key n (Nat.le_refl _)
  refine ⟨?_, a3⟩
  by_cases c : n < m
  · have := tb_pos fs c
    rw [← h2.2, ← a2, ← h1.2] at this
    omega
  · omega
end Go.Proofs.YtlbclfponongbaaGreatDoor
/- Blobs; what every right program answers. -/
namespace Go.Proofs.YtlbclfponongbaaGreatDoor
open Go.RowKit Classical
set_option maxHeartbeats 1000000 in
set_option maxRecDepth 100000 in
theorem blobo_any (l : List UInt8) (w : World) (hl : l.length ≤ 281474976710656) :
    Calls Tryz.prog 20 #[.string (bs l)] w fun e w' => (l.length ≤ 4096 → e = .returned (.tuple #[.agg (arr 2 (ov 1 l)), .int .i64 0])) ∧ (4096 < l.length → e = .returned (.tuple #[.agg (arr 2 (ov 0 [])), .int .i64 1])) ∧ Below w.heap.size w w' := by
  have hz := bs_size l
  have HC := Lib.hid (fun W => clone_any (bs l) W (by rw [bs_size]; exact hl))
  have B0 : Blk (w.alloc (.cells (arr 2 (ov 0 [])) 23)) w.heap.size 23 2 (ov 0 []) := Blk.newAt _ (heap_alloc_new _ _) rfl
  have L0 : Hid (Below w.heap.size w (w.alloc (.cells (arr 2 (ov 0 [])) 23))) := (Below.refl _ _).alloc (Nat.le_refl _) _
  go_enter Tryz.func20, Tryz.ntmps20
  go_upto_region 1 with fail
  change Code.wp _ _ _ _ (w.alloc (.cells (arr 2 (ov 0 [])) 23))
  have BZ := Lib.hid B0
  clear B0
  generalize hzr : w.heap.size = zr at BZ ⊢
  have HZ := Lib.hid hzr
  clear hzr
  generalize w.alloc (.cells (arr 2 (ov 0 [])) 23) = w1 at L0 BZ ⊢
  by_cases h : 4096 < l.length
  · have t1 : (4096 : Int) < ((bs l).size : Int) := by omega
    have HL := Lib.hid h
    clear h
    generalize bs l = sb at t1 HC hz ⊢
    clear hz
    go_upto_region 2 with fail
    refine wp_region_lit ?_
    refine wpList_valS (v := ?_) (by kernel_rfl) ?_ ?_
    rotate_left 1
    · (go_simp; try with_reducible rfl)
    try simp only [Act.put, List.setIfInBounds_toArray, List.set_cons_zero, List.set_cons_succ]
    refine wpList_unitG (by kernel_rfl) (ex_store 23 (.tmp 2) (.tmp 7) rfl zr 0 2 (ov 0 []) rfl rfl (BZ.out.there 0 2 (by omega)) szObject (fun i _ => ov_one _ _ i)) ?_
    try simp only [Act.put, List.setIfInBounds_toArray, List.set_cons_zero, List.set_cons_succ]
    refine wpList_valS (v := ?_) (by kernel_rfl) ?_ ?_
    rotate_left 1
    · (go_simp; try with_reducible rfl)
    try simp only [Act.put, List.setIfInBounds_toArray, List.set_cons_zero, List.set_cons_succ]
    refine wpList_nil ?_
    have B3 := BZ.out.over (ov 0 [])
    have L3 : Hid (Below w.heap.size w (w1.setCells zr 0 (arr 2 (ov 0 [])).toList)) := ((keepAll L0.out).trans ((keep_setCells (b := zr) _ 0 w1).mono fun b hb _ => by have := HZ.out; omega)).below (Nat.le_refl _)
    clear BZ L0
    generalize w1.setCells zr 0 (arr 2 (ov 0 [])).toList = w3 at B3 L3 ⊢
    go_wp2
    exact bodyPost_ret (results_blk2 rfl _ _ zr 23 2 (ov 0 []) B3 _ rfl Tryz.underlying23 rfl szObject) rfl ⟨fun h => absurd h (by have := HL.out; omega), fun _ => rfl, L3.out⟩
  · have t1 : decide ((4096 : Int) < ((bs l).size : Int)) = false := by rw [hz]; simp; omega
    have HL := Lib.hid h
    clear h hz
    go_upto_region 3 with fail
    refine wp_region_lit ?_
    refine wpList_valS (v := ?_) (by kernel_rfl) ?_ ?_
    rotate_left 1
    · (go_simp; try with_reducible rfl)
    try simp only [Act.put, List.setIfInBounds_toArray, List.set_cons_zero, List.set_cons_succ]
    refine wpList_callG (by kernel_rfl) fun K hK => ?_
    go_simp
    refine (HC.out w1).mono ?_
    rintro e w2 ⟨rfl, L2⟩
    refine hK _ _ ?_
    clear hK K
    try simp only [Act.put, List.setIfInBounds_toArray, List.set_cons_zero, List.set_cons_succ]
    refine wpList_valS (v := ?_) (by kernel_rfl) ?_ ?_
    rotate_left 1
    · (go_simp; try with_reducible rfl)
    try simp only [Act.put, List.setIfInBounds_toArray, List.set_cons_zero, List.set_cons_succ]
    have BZ2 := BZ.out.below L2 BZ.out.lt
    refine wpList_unitG (by kernel_rfl) (ex_store 23 (.tmp 2) (.tmp 10) rfl zr 0 2 (ov 1 l) rfl rfl (BZ2.there 0 2 (by omega)) szObject (fun i _ => ov_one _ _ i)) ?_
    try simp only [Act.put, List.setIfInBounds_toArray, List.set_cons_zero, List.set_cons_succ]
    refine wpList_valS (v := ?_) (by kernel_rfl) ?_ ?_
    rotate_left 1
    · (go_simp; try with_reducible rfl)
    try simp only [Act.put, List.setIfInBounds_toArray, List.set_cons_zero, List.set_cons_succ]
    refine wpList_nil ?_
    have B3 := BZ2.over (ov 1 l)
    have L3 : Hid (Below w.heap.size w (w2.setCells zr 0 (arr 2 (ov 1 l)).toList)) := ((keepAll (L0.out.trans (L2.mono L0.out.size))).trans ((keep_setCells (b := zr) _ 0 w2).mono fun b hb _ => by have := HZ.out; omega)).below (Nat.le_refl _)
    clear BZ BZ2 L0 L2
    generalize w2.setCells zr 0 (arr 2 (ov 1 l)).toList = w3 at B3 L3 ⊢
    go_wp2
    exact bodyPost_ret (results_blk2 rfl _ _ zr 23 2 (ov 1 l) B3 _ rfl Tryz.underlying23 rfl szObject) rfl ⟨fun _ => rfl, fun h => absurd h HL.out, L3.out⟩
/- the tree of alive -/
def three (i : Nat) : UInt8 := if i = 0 then 3 else 0
def aE : Nat → Ent | 0 => ⟨[121], 1, fun _ => 0⟩ | _ => ⟨[120], 2, three⟩
def aG : Nat → Ent | 0 => ⟨[120], 2, three⟩ | _ => ⟨[121], 1, fun _ => 0⟩
theorem aPerm : PermE aE aG 2 := List.Perm.swap _ _ _
theorem aOk : entsOk aG 2 := by
  refine ⟨by decide, fun i hi => ?_, fun i hi => ?_⟩
  · have : i = 0 ∨ i = 1 := by omega
    rcases this with rfl | rfl
    · exact ⟨⟨by decide, by decide, (by intro b hb; simp [aG] at hb; subst hb; unfold nok; decide)⟩, Or.inr rfl⟩
    · exact ⟨⟨by decide, by decide, (by intro b hb; simp [aG] at hb; subst hb; unfold nok; decide)⟩, Or.inl rfl⟩
  · have : i = 0 := by omega
    subst this
    rfl
theorem aTree : IsTree (tb aG 2) aG 2 := ⟨aOk, rfl⟩
theorem aLen : (tb aG 2).length ≤ 4096 := by
  have := tb_le aG 2 fun i hi => (aOk.2.1 i hi).1.2.1
  omega
theorem aObj : objOk 2 (tb aG 2) := ⟨aLen, Or.inr (Or.inl ⟨rfl, _, _, aTree⟩)⟩
theorem aRow : (#[.string ⟨#[121]⟩, .int .i64 1, .int .u8 0, .int .u8 0, .int .u8 0, .int .u8 0, .int .u8 0, .int .u8 0, .int .u8 0, .int .u8 0, .int .u8 0, .int .u8 0, .int .u8 0, .int .u8 0, .int .u8 0, .int .u8 0, .int .u8 0, .int .u8 0, .int .u8 0, .int .u8 0, .int .u8 0, .int .u8 0, .int .u8 0, .int .u8 0, .int .u8 0, .int .u8 0, .int .u8 0, .int .u8 0, .int .u8 0, .int .u8 0, .int .u8 0, .int .u8 0, .int .u8 0, .int .u8 0, .string ⟨#[120]⟩, .int .i64 2, .int .u8 3, .int .u8 0, .int .u8 0, .int .u8 0, .int .u8 0, .int .u8 0, .int .u8 0, .int .u8 0, .int .u8 0, .int .u8 0, .int .u8 0, .int .u8 0, .int .u8 0, .int .u8 0, .int .u8 0, .int .u8 0, .int .u8 0, .int .u8 0, .int .u8 0, .int .u8 0, .int .u8 0, .int .u8 0, .int .u8 0, .int .u8 0, .int .u8 0, .int .u8 0, .int .u8 0, .int .u8 0, .int .u8 0, .int .u8 0, .int .u8 0, .int .u8 0] : Array Value) = arr 68 (ec aE) := rfl
theorem fb_ab : bs (fb 1 [97, 98]) = ⟨#[98, 2, 97, 98]⟩ := by
  unfold fb tx
  rw [show clamp (([97, 98] : List UInt8).length : Int) = 2 from rfl, dg_low (by omega)]
  rfl
theorem aKids {H : Nat → (Nat → UInt8) × Int} {m : Nat} (h : Kids 2 (tb aG 2) H m) : m = 2 ∧ (H 0).2 = 2 ∧ same32 (H 0).1 three := by
  obtain ⟨es, n, h1, h2, h3⟩ := (h.2 aObj).2.1 rfl
  obtain ⟨h4, h5⟩ := tree_one h1 aTree
  subst h4
  refine ⟨h2, ?_, ?_⟩
  · rw [h3 0 (by omega)]; exact (h5 0 (by omega)).2.1
  · rw [h3 0 (by omega)]; exact (h5 0 (by omega)).2.2
theorem bd_three (w : World) : (Instr.build 29 #[(0, .int .u8 3)]).run Tryz.prog w = .ok (.agg (arr 32 (bv three))) w := by kernel_rfl
theorem ex_three {o : Oper} {a : Act} {w : World} (ho : o.op = .build 29 #[(0, .const (.int .u8 3))]) : (execOp a.eval o).run Tryz.prog w = .ok (.value (.agg (arr 32 (bv three)))) w :=
  ex_build ho (vs := #[(0, .int .u8 3)]) (by simp [Act.eval]) (bd_three w)
theorem aRowIs (w : World) : Row (w.alloc (.cells (arr 68 (ec aE)) 56)) (.slice (some ⟨w.heap.size, 0, none⟩) 2 2) 34 (ec aE) 2 :=
  Or.inr ⟨w.heap.size, 0, 2, rfl, by decide, by decide, by simp, fun i hi => by rw [Nat.zero_add]; exact (Blk.newAt _ (heap_alloc_new _ _) rfl : Blk (w.alloc (.cells (arr 68 (ec aE)) 56)) w.heap.size 56 68 (ec aE)).cell i hi⟩
set_option maxHeartbeats 1000000 in
set_option maxRecDepth 100000 in
theorem alive_any (w : World) : Calls Tryz.prog 4 #[] w fun e w' => e = .returned (.bool true) ∧ Below w.heap.size w w' := by
  have A1 : Hid (∀ W, Calls Tryz.prog 20 #[.string ⟨#[97, 98]⟩] W fun e w' => e = .returned (.tuple #[.agg #[.int .i64 1, .string ⟨#[97, 98]⟩], .int .i64 0]) ∧ Below W.heap.size W w') := fun W => (blobo_any [97, 98] W (by decide)).mono fun e w' h => ⟨h.1 (by decide), h.2.2⟩
  have A2 : Hid (∀ W, Calls Tryz.prog 5 #[.agg #[.int .i64 1, .string ⟨#[97, 98]⟩]] W fun e w' => e = .returned (.tuple #[.string ⟨#[98, 2, 97, 98]⟩, .int .i64 0]) ∧ Below W.heap.size W w') := fun W => (frame_any 1 [97, 98] W).mono fun e w' h => ⟨by rw [h.1 ⟨by decide, Or.inl rfl⟩, fb_ab], h.2.2⟩
  obtain ⟨tbs, htbs⟩ : ∃ tbs, tbs = bs (tb aG 2) := ⟨_, rfl⟩
  have A3 : Hid (∀ W v, Row W v 34 (ec aE) 2 → Calls Tryz.prog 21 #[v] W fun e w' => e = .returned (.tuple #[.agg #[.int .i64 2, .string tbs], .int .i64 0]) ∧ Below W.heap.size W w') := fun W v h => (tree_any aE v 2 W h (fun i hi => (by have h2 : i = 0 ∨ i = 1 := (by omega); rcases h2 with rfl | rfl <;> decide))).mono fun e w' h => ⟨by rw [h.1 aG aPerm aOk, htbs]; rfl, h.2.2⟩
  have A4 : Hid (∀ W, Calls Tryz.prog 9 #[.agg #[.int .i64 2, .string tbs]] W fun e w' => ∃ b o cap f, e = .returned (.slice (some ⟨b, o, none⟩) 2 cap) ∧ At w' b o 33 (hv f 2) ∧ same32 f three ∧ Below W.heap.size W w') := fun W => by
    rw [htbs]
    refine (children_any 2 (tb aG 2) W).mono ?_
    rintro e w' ⟨v, H, m, rfl, hR, hK, hB⟩
    obtain ⟨rfl, k2, k3⟩ := aKids hK
    obtain ⟨ad, cap, rfl, ha⟩ := row_addr hR
    obtain ⟨b, o, rfl, hb, hc⟩ := ha (by omega)
    refine ⟨b, o, cap, (H 0).1, rfl, fun j hj => ?_, k3, hB⟩
    rw [hc j (by omega)]
    have := hc_at H 0 j hj
    rw [Nat.zero_mul, Nat.zero_add] at this
    rw [this, k2]
  clear htbs
  go_enter Tryz.func4, Tryz.ntmps4
  go_wp2_with fail
  refine (A1.out _).mono ?_
  rintro e w1 ⟨rfl, L1⟩
  have K1 := Lib.hid L1
  clear L1 A1
  go_wp2_with fail
  refine (A2.out _).mono ?_
  rintro e w2 ⟨rfl, L2⟩
  have K2 := Lib.hid ((K1.out.alloc K1.out.size (.cells #[.int .i64 1, .string ⟨#[97, 98]⟩] 23)).trans (L2.mono (Nat.le_trans K1.out.size (by simp))))
  clear L2 A2 K1
  go_wp2_with fail
  rw [aRow]
  refine (A3.out _ _ (aRowIs w2)).mono ?_
  rintro e w3 ⟨rfl, L3⟩
  have K3 := Lib.hid ((K2.out.alloc K2.out.size (.cells (arr 68 (ec aE)) 56)).trans (L3.mono (Nat.le_trans K2.out.size (by simp))))
  clear L3 A3 K2
  go_wp2_with fail
  refine (A4.out _).mono ?_
  rintro e w4 ⟨b, o, cap, f, rfl, hA, hf, L4⟩
  have K4 := Lib.hid ((K3.out.alloc K3.out.size (.cells #[.int .i64 2, .string tbs] 23)).trans (L4.mono (Nat.le_trans K3.out.size (by simp))))
  have HA := Lib.hid hA
  have hq := fun W => eqlChild f three 2 2 W
  rw [decide_eq_true (⟨hf, rfl⟩ : same32 f three ∧ (2 : Int) = 2)] at hq
  clear L4 K3 A4 hA hf
  go_upto_region 5 with fail
  refine wp_region_lit ?_
  refine wpList_valS (v := ?_) (by kernel_rfl) ?_ ?_
  rotate_left 1
  · (go_simp; try with_reducible rfl)
  try simp only [Act.put, List.setIfInBounds_toArray, List.set_cons_zero, List.set_cons_succ]
  refine wpList_valS (v := ?_) (by kernel_rfl) ?_ ?_
  rotate_left 1
  · (go_simp; try with_reducible rfl)
  try simp only [Act.put, List.setIfInBounds_toArray, List.set_cons_zero, List.set_cons_succ]
  refine wpList_valS (v := ?_) (by kernel_rfl) ?_ ?_
  rotate_left 1
  · (go_simp; try with_reducible rfl)
  try simp only [Act.put, List.setIfInBounds_toArray, List.set_cons_zero, List.set_cons_succ]
  refine wpList_valS (v := ?_) (by kernel_rfl) ?_ ?_
  rotate_left 1
  · (go_simp; try with_reducible rfl)
  try simp only [Act.put, List.setIfInBounds_toArray, List.set_cons_zero, List.set_cons_succ]
  refine wpList_valS (v := ?_) (by kernel_rfl) ?_ ?_
  rotate_left 1
  · (go_simp; try with_reducible rfl)
  try simp only [Act.put, List.setIfInBounds_toArray, List.set_cons_zero, List.set_cons_succ]
  refine wpList_valS (v := ?_) (by kernel_rfl) ?_ ?_
  rotate_left 1
  · (go_simp; try with_reducible rfl)
  try simp only [Act.put, List.setIfInBounds_toArray, List.set_cons_zero, List.set_cons_succ]
  refine wpList_valS (v := ?_) (by kernel_rfl) ?_ ?_
  rotate_left 1
  · (go_simp; try with_reducible rfl)
  try simp only [Act.put, List.setIfInBounds_toArray, List.set_cons_zero, List.set_cons_succ]
  refine wpList_valS (v := ?_) (by kernel_rfl) ?_ ?_
  rotate_left 1
  · (go_simp; try with_reducible rfl)
  try simp only [Act.put, List.setIfInBounds_toArray, List.set_cons_zero, List.set_cons_succ]
  refine wpList_valS (v := ?_) (by kernel_rfl) ?_ ?_
  rotate_left 1
  · (go_simp; try with_reducible rfl)
  try simp only [Act.put, List.setIfInBounds_toArray, List.set_cons_zero, List.set_cons_succ]
  refine wpList_valS (v := ?_) (by kernel_rfl) ?_ ?_
  rotate_left 1
  · (go_simp; try with_reducible rfl)
  try simp only [Act.put, List.setIfInBounds_toArray, List.set_cons_zero, List.set_cons_succ]
  refine wpList_valS (v := ?_) (by kernel_rfl) ?_ ?_
  rotate_left 1
  · (go_simp; try with_reducible rfl)
  try simp only [Act.put, List.setIfInBounds_toArray, List.set_cons_zero, List.set_cons_succ]
  refine wpList_valS (v := ?_) (by kernel_rfl) ?_ ?_
  rotate_left 1
  · (go_simp; try with_reducible rfl)
  try simp only [Act.put, List.setIfInBounds_toArray, List.set_cons_zero, List.set_cons_succ]
  refine wpList_valS (v := ?_) (by kernel_rfl) ?_ ?_
  rotate_left 1
  · (go_simp; try with_reducible rfl)
  try simp only [Act.put, List.setIfInBounds_toArray, List.set_cons_zero, List.set_cons_succ]
  refine wpList_valS (v := ?_) (by kernel_rfl) ?_ ?_
  rotate_left 1
  · (go_simp; try with_reducible rfl)
  try simp only [Act.put, List.setIfInBounds_toArray, List.set_cons_zero, List.set_cons_succ]
  refine wpList_valS (v := ?_) (by kernel_rfl) ?_ ?_
  rotate_left 1
  · (go_simp; try with_reducible rfl)
  try simp only [Act.put, List.setIfInBounds_toArray, List.set_cons_zero, List.set_cons_succ]
  refine wpList_valS (v := ?_) (by kernel_rfl) ?_ ?_
  rotate_left 1
  · (go_simp; try with_reducible rfl)
  try simp only [Act.put, List.setIfInBounds_toArray, List.set_cons_zero, List.set_cons_succ]
  refine wpList_valS (v := ?_) (by kernel_rfl) ?_ ?_
  rotate_left 1
  · (go_simp; try with_reducible rfl)
  try simp only [Act.put, List.setIfInBounds_toArray, List.set_cons_zero, List.set_cons_succ]
  refine wpList_valS (v := ?_) (by kernel_rfl) ?_ ?_
  rotate_left 1
  · (go_simp; try with_reducible rfl)
  try simp only [Act.put, List.setIfInBounds_toArray, List.set_cons_zero, List.set_cons_succ]
  refine wpList_valS (v := ?_) (by kernel_rfl) ?_ ?_
  rotate_left 1
  · (go_simp; try with_reducible rfl)
  try simp only [Act.put, List.setIfInBounds_toArray, List.set_cons_zero, List.set_cons_succ]
  refine wpList_valS (v := ?_) (by kernel_rfl) ?_ ?_
  rotate_left 1
  · (go_simp; try with_reducible rfl)
  try simp only [Act.put, List.setIfInBounds_toArray, List.set_cons_zero, List.set_cons_succ]
  refine wpList_valS (v := ?_) (by kernel_rfl) ?_ ?_
  rotate_left 1
  · (go_simp; try with_reducible rfl)
  try simp only [Act.put, List.setIfInBounds_toArray, List.set_cons_zero, List.set_cons_succ]
  refine wpList_valS (v := ?_) (by kernel_rfl) ?_ ?_
  rotate_left 1
  · (go_simp; try with_reducible rfl)
  try simp only [Act.put, List.setIfInBounds_toArray, List.set_cons_zero, List.set_cons_succ]
  refine wpList_valG (by kernel_rfl) (ex_load 58 (.tmp 48) rfl b o 33 (hv f 2) rfl Tryz.underlying58 rfl szChild HA.out) ?_
  try simp only [Act.put, List.setIfInBounds_toArray, List.set_cons_zero, List.set_cons_succ]
  refine wpList_valG (by kernel_rfl) (ex_three rfl) ?_
  try simp only [Act.put, List.setIfInBounds_toArray, List.set_cons_zero, List.set_cons_succ]
  refine wpList_valG (by kernel_rfl) (ex_child (.tmp 50) (.const (.int .i64 2)) rfl 2 three rfl rfl) ?_
  try simp only [Act.put, List.setIfInBounds_toArray, List.set_cons_zero, List.set_cons_succ]
  refine wpList_valS (v := ?_) (by kernel_rfl) ?_ ?_
  rotate_left 1
  · (go_simp; try with_reducible rfl)
  try simp only [Act.put, List.setIfInBounds_toArray, List.set_cons_zero, List.set_cons_succ]
  refine wpList_valS (v := ?_) (by kernel_rfl) ?_ ?_
  rotate_left 1
  · (go_simp; try with_reducible rfl)
  try simp only [Act.put, List.setIfInBounds_toArray, List.set_cons_zero, List.set_cons_succ]
  refine wpList_valS (v := ?_) (by kernel_rfl) ?_ ?_
  rotate_left 1
  · (go_simp; try with_reducible rfl)
  try simp only [Act.put, List.setIfInBounds_toArray, List.set_cons_zero, List.set_cons_succ]
  refine wpList_nil ?_
  go_wp2
  go_ret
  exact ⟨rfl, K4.out⟩
end Go.Proofs.YtlbclfponongbaaGreatDoor
