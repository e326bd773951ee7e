import Derived.Test.YtiajfhoiedkaaaaO28
/- What a tree and a commit say. -/
namespace Go.Proofs.Ytiajfhoiedkaaaa
open Go.RowKit Classical
def TSaid (e : Ending) (w : World) (l : List UInt8) : Prop := ∃ v es n, e = .returned (.tuple #[v, .int .i64 0]) ∧ Row w v 34 (ec es) n ∧ IsTree l es n
def CSaid (e : Ending) (w : World) (l : List UInt8) : Prop := ∃ c pv, e = .returned (.tuple #[.agg (arr 34 (cv c.tree pv c.text)), .int .i64 0]) ∧ Row w pv 32 (pc c.par) c.n ∧ IsCom l c
set_option maxHeartbeats 2000000 in
set_option maxRecDepth 100000 in
theorem entries_any (k : Int) (l : List UInt8) (w : World) :
    Calls Try.prog 21 #[.agg #[.int .i64 k, .string (bs l)]] w fun e w' => (objOk k l ∧ k = 2 → TSaid e w' l) ∧ (¬ (objOk k l ∧ k = 2) → e = .returned (.tuple #[.slice none 0 0, .int .i64 1])) ∧ Below w.heap.size w w' := by
  have HR := Lib.hid (fun W => read_any k l W)
  have L0 : Hid (Below w.heap.size w (w.alloc (.cells (arr 2 (ov k l)) 24))) := (Below.refl _ _).alloc (Nat.le_refl _) _
  have BO : Hid (Blk (w.alloc (.cells (arr 2 (ov k l)) 24)) w.heap.size 24 2 (ov k l)) := Blk.newAt _ (heap_alloc_new _ _) rfl
  go_enter Try.func21, Try.ntmps21
  go_upto_region 1 with fail
  change Code.wp _ _ _ _ (w.alloc (.cells (arr 2 (ov k l)) 24))
  generalize hzb : w.heap.size = zb at BO ⊢
  have HZ := Lib.hid hzb
  clear hzb
  generalize (w.alloc (.cells (arr 2 (ov k l)) 24)) = w1 at L0 BO ⊢
  have c0 : w1.cell? ⟨zb, 0, none⟩ = some (.int .i64 k) := BO.out.cell 0 (by omega)
  have c1 : w1.cell? ⟨zb, 1, none⟩ = some (.string (bs l)) := BO.out.cell 1 (by omega)
  go_wp2_with fail
  refine (HR.out _).mono ?_
  rintro e w2 ⟨v, t, pv, s, rfl, S2, o1, o2, fp, L2⟩
  have A3 := (Below.refl w2.heap.size w2).alloc (Nat.le_refl _) (.cells (arr 35 (sv v t pv s)) 84)
  have L3 := Lib.hid ((L0.out.trans (L2.mono L0.out.size)).trans (A3.mono (Nat.le_trans L0.out.size L2.size)))
  have S3 := Lib.hid (S2.below A3)
  have BO3 := Lib.hid ((BO.out.below L2 BO.out.lt).below A3 (Nat.lt_of_lt_of_le BO.out.lt L2.size))
  have BS3 : Hid (Blk (w2.alloc (.cells (arr 35 (sv v t pv s)) 84)) w2.heap.size 84 35 (sv v t pv s)) := Blk.newAt _ (heap_alloc_new _ _) rfl
  clear S2 L2 L0 HR BO fp A3 c0 c1
  go_upto_region 2 with (refine wpList_store_blk rfl 84 (.tmp 4) (.tmp 9) rfl w2.heap.size 35 (sv v t pv s) sv0 rfl rfl 84 (Blk.newAt _ (heap_alloc_new _ _) rfl) szSaid (fun i _ => sv_one _ o1 _ _ o2 _ i) ?_)
  rw [World.setRow_alloc_new]
  generalize w2.alloc (.cells (arr 35 (sv v t pv s)) 84) = w3 at L3 S3 BO3 BS3 ⊢
  generalize w2.heap.size = zs at BS3 ⊢
  have c0 : w3.cell? ⟨zb, 0, none⟩ = some (.int .i64 k) := BO3.out.cell 0 (by omega)
  by_cases ho : objOk k l
  · rw [decide_eq_true ho]
    by_cases hk : k = 2
    · subst hk
      obtain ⟨es, n, c, R1, R2, rfl, rfl, hf⟩ := S3.out
      have T0 := Lib.hid ((hf ho).1 rfl)
      have R3 := Lib.hid R1
      have HO := Lib.hid ho
      obtain ⟨d0, d33, dt⟩ := sv_at BS3.out
      clear hf ho S3 dt R1 R2 BO3
      go_wp2
      go_ret2
      exact ⟨fun _ => ⟨_, es, n, rfl, R3.out, T0.out⟩, fun h => absurd (by first | exact ⟨HO.out, rfl⟩ | exact ⟨HO.out, trivial⟩ | exact HO.out) h, L3.out⟩
    · have NO : Hid (¬ (objOk k l ∧ k = 2)) := fun h => hk h.2
      have tk : (k != 2) = true := by simpa using hk
      clear hk ho
      go_wp2
      go_ret2
      exact ⟨fun h1 => absurd h1 NO.out, fun _ => rfl, L3.out⟩
  · have NO : Hid (¬ (objOk k l ∧ k = 2)) := fun h => ho h.1
    rw [decide_eq_false ho]
    clear ho
    go_wp2
    go_ret2
    exact ⟨fun h1 => absurd h1 NO.out, fun _ => rfl, L3.out⟩
set_option maxHeartbeats 2000000 in
set_option maxRecDepth 100000 in
theorem commits_any (k : Int) (l : List UInt8) (w : World) :
    Calls Try.prog 22 #[.agg #[.int .i64 k, .string (bs l)]] w fun e w' => (objOk k l ∧ k = 3 → CSaid e w' l) ∧ (¬ (objOk k l ∧ k = 3) → e = .returned (.tuple #[.agg (arr 34 (cv (fun _ => 0) (.slice none 0 0) [])), .int .i64 1])) ∧ Below w.heap.size w w' := by
  have HR := Lib.hid (fun W => read_any k l W)
  have BO0 : Blk (w.alloc (.cells (arr 2 (ov k l)) 24)) w.heap.size 24 2 (ov k l) := Blk.newAt _ (heap_alloc_new _ _) rfl
  have A0 : Below w.heap.size w (w.alloc (.cells (arr 2 (ov k l)) 24)) := (Below.refl _ _).alloc (Nat.le_refl _) _
  have BZ0 : Blk ((w.alloc (.cells (arr 2 (ov k l)) 24)).alloc (.cells (arr 34 (cv (fun _ => 0) (.slice none 0 0) [])) 36)) (w.heap.size + 1) 36 34 (cv (fun _ => 0) (.slice none 0 0) []) := Blk.newAt _ (heap_alloc2_new w _ _) rfl
  have A1 := (Below.refl (w.alloc (.cells (arr 2 (ov k l)) 24)).heap.size (w.alloc (.cells (arr 2 (ov k l)) 24))).alloc (Nat.le_refl _) (.cells (arr 34 (cv (fun _ => 0) (.slice none 0 0) [])) 36)
  have L0 := Lib.hid (A0.trans (A1.mono A0.size))
  have BO := Lib.hid (BO0.below A1 BO0.lt)
  have BZ := Lib.hid BZ0
  clear BO0 BZ0 A0 A1
  go_enter Try.func22, Try.ntmps22
  go_upto_region 1 with fail
  change Code.wp _ _ _ _ ((w.alloc (.cells (arr 2 (ov k l)) 24)).alloc (.cells (arr 34 (cv (fun _ => 0) (.slice none 0 0) [])) 36))
  generalize hzb : w.heap.size = zb at BO BZ ⊢
  have HZ := Lib.hid hzb
  clear hzb
  generalize ((w.alloc (.cells (arr 2 (ov k l)) 24)).alloc (.cells (arr 34 (cv (fun _ => 0) (.slice none 0 0) [])) 36)) = w1 at L0 BO BZ ⊢
  have c0 : w1.cell? ⟨zb, 0, none⟩ = some (.int .i64 k) := BO.out.cell 0 (by omega)
  have c1 : w1.cell? ⟨zb, 1, none⟩ = some (.string (bs l)) := BO.out.cell 1 (by omega)
  go_wp2_with fail
  refine (HR.out _).mono ?_
  rintro e w2 ⟨v, t, pv, s, rfl, S2, o1, o2, fp, L2⟩
  have FP := Lib.hid fp
  have ZL : Hid (zb + 1 < w1.heap.size) := BZ.out.lt
  have A3 := (Below.refl w2.heap.size w2).alloc (Nat.le_refl _) (.cells (arr 35 (sv v t pv s)) 84)
  have L3 := Lib.hid ((L0.out.trans (L2.mono L0.out.size)).trans (A3.mono (Nat.le_trans L0.out.size L2.size)))
  have S3 := Lib.hid (S2.below A3)
  have BO3 := Lib.hid ((BO.out.below L2 BO.out.lt).below A3 (Nat.lt_of_lt_of_le BO.out.lt L2.size))
  have BZ3 := Lib.hid ((BZ.out.below L2 BZ.out.lt).below A3 (Nat.lt_of_lt_of_le BZ.out.lt L2.size))
  have BS3 : Hid (Blk (w2.alloc (.cells (arr 35 (sv v t pv s)) 84)) w2.heap.size 84 35 (sv v t pv s)) := Blk.newAt _ (heap_alloc_new _ _) rfl
  clear S2 L2 L0 HR BO fp BZ A3 c0 c1
  go_upto_region 2 with (refine wpList_store_blk rfl 84 (.tmp 4) (.tmp 9) rfl w2.heap.size 35 (sv v t pv s) sv0 rfl rfl 84 (Blk.newAt _ (heap_alloc_new _ _) rfl) szSaid (fun i _ => sv_one _ o1 _ _ o2 _ i) ?_)
  rw [World.setRow_alloc_new]
  generalize w2.alloc (.cells (arr 35 (sv v t pv s)) 84) = w3 at L3 S3 BO3 BZ3 BS3 ⊢
  generalize w2.heap.size = zs at BS3 ⊢
  have c0 : w3.cell? ⟨zb, 0, none⟩ = some (.int .i64 k) := BO3.out.cell 0 (by omega)
  by_cases ho : objOk k l
  · rw [decide_eq_true ho]
    by_cases hk : k = 3
    · subst hk
      obtain ⟨es, n, c, R1, R2, rfl, rfl, hf⟩ := S3.out
      have T0 := Lib.hid ((hf ho).2.2.1 rfl)
      have R3 := Lib.hid R2
      have HO := Lib.hid ho
      have HP := o2
      have TC : Hid (At w3 zs 1 34 (cv c.tree pv c.text)) := BS3.out.at0.part 1 34 _ (by omega) fun j hj => by
        show sv v c.tree pv c.text (1 + j) = _
        unfold sv
        rw [if_neg (by omega), show 1 + j - 1 = j by omega]
      clear hf ho S3 R1 R2 BO3
      go_upto_region 4 with fail
      refine wp_region_lit ?_
      refine wpList_valG (by kernel_rfl) (ex_fieldP fS1 (.tmp 4) rfl zs 0 rfl 1 rfl) ?_
      try simp only [Act.put, List.setIfInBounds_toArray, List.set_cons_zero, List.set_cons_succ]
      refine wpList_valG (by kernel_rfl) (ex_load 36 (.tmp 19) rfl zs 1 34 (cv c.tree pv c.text) rfl Try.underlying36 rfl szCommit TC.out) ?_
      try simp only [Act.put, List.setIfInBounds_toArray, List.set_cons_zero, List.set_cons_succ]
      refine wpList_unitG (by kernel_rfl) (ex_store 36 (.tmp 2) (.tmp 20) rfl (zb + 1) 0 34 (cv c.tree pv c.text) rfl rfl (BZ3.out.there 0 34 (by omega)) szCommit (fun i _ => cv_one _ _ HP _ i)) ?_
      try simp only [Act.put, List.setIfInBounds_toArray, List.set_cons_zero, List.set_cons_succ]
      refine wpList_valS (v := ?_) (by kernel_rfl) ?_ ?_
      rotate_left 1
      · (go_simp; try with_reducible rfl)
      try simp only [Act.put, List.setIfInBounds_toArray, List.set_cons_zero, List.set_cons_succ]
      refine wpList_nil ?_
      have B4 := BZ3.out.over (cv c.tree pv c.text)
      have K4 : Keep (fun b => b ≠ zb + 1) w3 (w3.setCells (zb + 1) 0 (arr 34 (cv c.tree pv c.text)).toList) := keep_setCells _ 0 w3
      have L4 : Hid (Below w.heap.size w (w3.setCells (zb + 1) 0 (arr 34 (cv c.tree pv c.text)).toList)) := ((keepAll L3.out).trans (K4.mono fun b hb _ => by have := HZ.out; omega)).below (Nat.le_refl _)
      have R4 : Hid (Row (w3.setCells (zb + 1) 0 (arr 34 (cv c.tree pv c.text)).toList) pv 32 (pc c.par) c.n) := R3.out.keep K4 (fun g o m cap h => by have := FP.out g o m cap h; have := ZL.out; omega)
      clear BZ3 L3 BS3 K4 R3
      generalize w3.setCells (zb + 1) 0 (arr 34 (cv c.tree pv c.text)).toList = w4 at B4 L4 R4 ⊢
      go_wp2
      exact bodyPost_ret (results_blk2 rfl _ _ (zb + 1) 36 34 (cv c.tree pv c.text) B4 _ rfl Try.underlying36 rfl szCommit) rfl ⟨fun _ => ⟨c, pv, rfl, R4.out, T0.out⟩, fun h => absurd (by first | exact ⟨HO.out, rfl⟩ | exact ⟨HO.out, trivial⟩ | exact HO.out) h, L4.out⟩
    · have NO : Hid (¬ (objOk k l ∧ k = 3)) := fun h => hk h.2
      have tk : (k != 3) = true := by simpa using hk
      clear hk ho
      go_upto_region 3 with fail
      refine wp_region_lit ?_
      refine wpList_valS (v := ?_) (by kernel_rfl) ?_ ?_
      rotate_left 1
      · (go_simp; try with_reducible rfl)
      try simp only [Act.put, List.setIfInBounds_toArray, List.set_cons_zero, List.set_cons_succ]
      refine wpList_unitG (by kernel_rfl) (ex_store 36 (.tmp 2) (.tmp 18) rfl (zb + 1) 0 34 (cv (fun _ => 0) (.slice none 0 0) []) rfl rfl (BZ3.out.there 0 34 (by omega)) szCommit (fun i _ => cv_one _ _ rfl _ i)) ?_
      try simp only [Act.put, List.setIfInBounds_toArray, List.set_cons_zero, List.set_cons_succ]
      refine wpList_valS (v := ?_) (by kernel_rfl) ?_ ?_
      rotate_left 1
      · (go_simp; try with_reducible rfl)
      try simp only [Act.put, List.setIfInBounds_toArray, List.set_cons_zero, List.set_cons_succ]
      refine wpList_nil ?_
      have B4 := BZ3.out.over (cv (fun _ => 0) (.slice none 0 0) [])
      have L4 : Hid (Below w.heap.size w (w3.setCells (zb + 1) 0 (arr 34 (cv (fun _ => 0) (.slice none 0 0) [])).toList)) := ((keepAll L3.out).trans ((keep_setCells (b := zb + 1) _ 0 w3).mono fun b hb _ => by have := HZ.out; omega)).below (Nat.le_refl _)
      clear BZ3 L3 S3 BO3 BS3
      generalize w3.setCells (zb + 1) 0 (arr 34 (cv (fun _ => 0) (.slice none 0 0) [])).toList = w4 at B4 L4 ⊢
      go_wp2
      exact bodyPost_ret (results_blk2 rfl _ _ (zb + 1) 36 34 (cv (fun _ => 0) (.slice none 0 0) []) B4 _ rfl Try.underlying36 rfl szCommit) rfl ⟨fun h1 => absurd h1 NO.out, fun _ => rfl, L4.out⟩
  · have NO : Hid (¬ (objOk k l ∧ k = 3)) := fun h => ho h.1
    rw [decide_eq_false ho]
    clear ho
    go_upto_region 3 with fail
    refine wp_region_lit ?_
    refine wpList_valS (v := ?_) (by kernel_rfl) ?_ ?_
    rotate_left 1
    · (go_simp; try with_reducible rfl)
    try simp only [Act.put, List.setIfInBounds_toArray, List.set_cons_zero, List.set_cons_succ]
    refine wpList_unitG (by kernel_rfl) (ex_store 36 (.tmp 2) (.tmp 18) rfl (zb + 1) 0 34 (cv (fun _ => 0) (.slice none 0 0) []) rfl rfl (BZ3.out.there 0 34 (by omega)) szCommit (fun i _ => cv_one _ _ rfl _ i)) ?_
    try simp only [Act.put, List.setIfInBounds_toArray, List.set_cons_zero, List.set_cons_succ]
    refine wpList_valS (v := ?_) (by kernel_rfl) ?_ ?_
    rotate_left 1
    · (go_simp; try with_reducible rfl)
    try simp only [Act.put, List.setIfInBounds_toArray, List.set_cons_zero, List.set_cons_succ]
    refine wpList_nil ?_
    have B4 := BZ3.out.over (cv (fun _ => 0) (.slice none 0 0) [])
    have L4 : Hid (Below w.heap.size w (w3.setCells (zb + 1) 0 (arr 34 (cv (fun _ => 0) (.slice none 0 0) [])).toList)) := ((keepAll L3.out).trans ((keep_setCells (b := zb + 1) _ 0 w3).mono fun b hb _ => by have := HZ.out; omega)).below (Nat.le_refl _)
    clear BZ3 L3 S3 BO3 BS3
    generalize w3.setCells (zb + 1) 0 (arr 34 (cv (fun _ => 0) (.slice none 0 0) [])).toList = w4 at B4 L4 ⊢
    go_wp2
    exact bodyPost_ret (results_blk2 rfl _ _ (zb + 1) 36 34 (cv (fun _ => 0) (.slice none 0 0) []) B4 _ rfl Try.underlying36 rfl szCommit) rfl ⟨fun h1 => absurd h1 NO.out, fun _ => rfl, L4.out⟩
end Go.Proofs.Ytiajfhoiedkaaaa
