import Derived.Test.YtlbclfponongbaaGreatDoorO27m
/- What a tree and a commit say. -/
namespace Go.Proofs.YtlbclfponongbaaGreatDoor
open Go.RowKit Classical
def TSaid (e : Ending) (w : World) (l : List UInt8) : Prop := ∃ v es n, e = .returned (.tuple #[v, .int .i64 0]) ∧ Row w v 34 (ec es) n ∧ IsTree l es n
def CSaid (e : Ending) (w : World) (l : List UInt8) : Prop := ∃ c pv, e = .returned (.tuple #[.agg (arr 34 (cv c.tree pv c.text)), .int .i64 0]) ∧ Row w pv 32 (pc c.par) c.n ∧ IsCom l c
set_option maxHeartbeats 2000000 in
set_option maxRecDepth 100000 in
theorem entries_any (k : Int) (l : List UInt8) (w : World) :
    Calls Tryz.prog 7 #[.agg #[.int .i64 k, .string (bs l)]] w fun e w' => (objOk k l ∧ k = 2 → TSaid e w' l) ∧ (¬ (objOk k l ∧ k = 2) → e = .returned (.tuple #[.slice none 0 0, .int .i64 1])) ∧ Below w.heap.size w w' := by
  have HR := Lib.hid (fun W => read_any k l W)
  have L0 : Hid (Below w.heap.size w (w.alloc (.cells (arr 2 (ov k l)) 23))) := (Below.refl _ _).alloc (Nat.le_refl _) _
  have BO : Hid (Blk (w.alloc (.cells (arr 2 (ov k l)) 23)) w.heap.size 23 2 (ov k l)) := Blk.newAt _ (heap_alloc_new _ _) rfl
  go_enter Tryz.func7, Tryz.ntmps7
  go_upto_region 1 with fail
  change Code.wp _ _ _ _ (w.alloc (.cells (arr 2 (ov k l)) 23))
  generalize hzb : w.heap.size = zb at BO ⊢
  have HZ := Lib.hid hzb
  clear hzb
  generalize (w.alloc (.cells (arr 2 (ov k l)) 23)) = w1 at L0 BO ⊢
  have c0 : w1.cell? ⟨zb, 0, none⟩ = some (.int .i64 k) := BO.out.cell 0 (by omega)
  have c1 : w1.cell? ⟨zb, 1, none⟩ = some (.string (bs l)) := BO.out.cell 1 (by omega)
  go_wp2_with fail
  refine (HR.out _).mono ?_
  rintro e w2 ⟨v, t, pv, s, rfl, S2, o1, o2, fp, L2⟩
  have A3 := (Below.refl w2.heap.size w2).alloc (Nat.le_refl _) (.cells (arr 35 (sv v t pv s)) 66)
  have L3 := Lib.hid ((L0.out.trans (L2.mono L0.out.size)).trans (A3.mono (Nat.le_trans L0.out.size L2.size)))
  have S3 := Lib.hid (S2.below A3)
  have BO3 := Lib.hid ((BO.out.below L2 BO.out.lt).below A3 (Nat.lt_of_lt_of_le BO.out.lt L2.size))
  have BS3 : Hid (Blk (w2.alloc (.cells (arr 35 (sv v t pv s)) 66)) w2.heap.size 66 35 (sv v t pv s)) := Blk.newAt _ (heap_alloc_new _ _) rfl
  clear S2 L2 L0 HR BO fp A3 c0 c1
  go_upto_region 2 with (refine wpList_store_blk rfl 66 (.tmp 4) (.tmp 9) rfl w2.heap.size 35 (sv v t pv s) sv0 rfl rfl 66 (Blk.newAt _ (heap_alloc_new _ _) rfl) szSaid (fun i _ => sv_one _ o1 _ _ o2 _ i) ?_)
  rw [World.setRow_alloc_new]
  generalize w2.alloc (.cells (arr 35 (sv v t pv s)) 66) = w3 at L3 S3 BO3 BS3 ⊢
  generalize w2.heap.size = zs at BS3 ⊢
  have c0 : w3.cell? ⟨zb, 0, none⟩ = some (.int .i64 k) := BO3.out.cell 0 (by omega)
  by_cases ho : objOk k l
  · rw [decide_eq_true ho]
    by_cases hk : k = 2
    · subst hk
      obtain ⟨es, n, c, R1, R2, rfl, rfl, hf⟩ := S3.out
      have T0 := Lib.hid ((hf ho).1 rfl)
      have R3 := Lib.hid R1
      have HO := Lib.hid ho
      obtain ⟨d0, d33, dt⟩ := sv_at BS3.out
      clear hf ho S3 dt R1 R2 BO3
      go_wp2
      go_ret2
      exact ⟨fun _ => ⟨_, es, n, rfl, R3.out, T0.out⟩, fun h => absurd (by first | exact ⟨HO.out, rfl⟩ | exact ⟨HO.out, trivial⟩ | exact HO.out) h, L3.out⟩
    · have NO : Hid (¬ (objOk k l ∧ k = 2)) := fun h => hk h.2
      have tk : (k != 2) = true := by simpa using hk
      clear hk ho
      go_wp2
      go_ret2
      exact ⟨fun h1 => absurd h1 NO.out, fun _ => rfl, L3.out⟩
  · have NO : Hid (¬ (objOk k l ∧ k = 2)) := fun h => ho h.1
    rw [decide_eq_false ho]
    clear ho
    go_wp2
    go_ret2
    exact ⟨fun h1 => absurd h1 NO.out, fun _ => rfl, L3.out⟩
set_option maxHeartbeats 2000000 in
set_option maxRecDepth 100000 in
theorem commits_any (k : Int) (l : List UInt8) (w : World) :
    Calls Tryz.prog 8 #[.agg #[.int .i64 k, .string (bs l)]] w fun e w' => (objOk k l ∧ k = 3 → CSaid e w' l) ∧ (¬ (objOk k l ∧ k = 3) → e = .returned (.tuple #[.agg (arr 34 (cv (fun _ => 0) (.slice none 0 0) [])), .int .i64 1])) ∧ Below w.heap.size w w' := by
  have HR := Lib.hid (fun W => read_any k l W)
  have BO0 : Blk (w.alloc (.cells (arr 2 (ov k l)) 23)) w.heap.size 23 2 (ov k l) := Blk.newAt _ (heap_alloc_new _ _) rfl
  have A0 : Below w.heap.size w (w.alloc (.cells (arr 2 (ov k l)) 23)) := (Below.refl _ _).alloc (Nat.le_refl _) _
  have BZ0 : Blk ((w.alloc (.cells (arr 2 (ov k l)) 23)).alloc (.cells (arr 34 (cv (fun _ => 0) (.slice none 0 0) [])) 37)) (w.heap.size + 1) 37 34 (cv (fun _ => 0) (.slice none 0 0) []) := Blk.newAt _ (heap_alloc2_new w _ _) rfl
  have A1 := (Below.refl (w.alloc (.cells (arr 2 (ov k l)) 23)).heap.size (w.alloc (.cells (arr 2 (ov k l)) 23))).alloc (Nat.le_refl _) (.cells (arr 34 (cv (fun _ => 0) (.slice none 0 0) [])) 37)
  have L0 := Lib.hid (A0.trans (A1.mono A0.size))
  have BO := Lib.hid (BO0.below A1 BO0.lt)
  have BZ := Lib.hid BZ0
  clear BO0 BZ0 A0 A1
  go_enter Tryz.func8, Tryz.ntmps8
  go_upto_region 1 with fail
  change Code.wp _ _ _ _ ((w.alloc (.cells (arr 2 (ov k l)) 23)).alloc (.cells (arr 34 (cv (fun _ => 0) (.slice none 0 0) [])) 37))
  generalize hzb : w.heap.size = zb at BO BZ ⊢
  have HZ := Lib.hid hzb
  clear hzb
  generalize ((w.alloc (.cells (arr 2 (ov k l)) 23)).alloc (.cells (arr 34 (cv (fun _ => 0) (.slice none 0 0) [])) 37)) = w1 at L0 BO BZ ⊢
  have c0 : w1.cell? ⟨zb, 0, none⟩ = some (.int .i64 k) := BO.out.cell 0 (by omega)
  have c1 : w1.cell? ⟨zb, 1, none⟩ = some (.string (bs l)) := BO.out.cell 1 (by omega)
  go_wp2_with fail
  refine (HR.out _).mono ?_
  rintro e w2 ⟨v, t, pv, s, rfl, S2, o1, o2, fp, L2⟩
  have FP := Lib.hid fp
  have ZL : Hid (zb + 1 < w1.heap.size) := BZ.out.lt
  have A3 := (Below.refl w2.heap.size w2).alloc (Nat.le_refl _) (.cells (arr 35 (sv v t pv s)) 66)
  have L3 := Lib.hid ((L0.out.trans (L2.mono L0.out.size)).trans (A3.mono (Nat.le_trans L0.out.size L2.size)))
  have S3 := Lib.hid (S2.below A3)
  have BO3 := Lib.hid ((BO.out.below L2 BO.out.lt).below A3 (Nat.lt_of_lt_of_le BO.out.lt L2.size))
  have BZ3 := Lib.hid ((BZ.out.below L2 BZ.out.lt).below A3 (Nat.lt_of_lt_of_le BZ.out.lt L2.size))
  have BS3 : Hid (Blk (w2.alloc (.cells (arr 35 (sv v t pv s)) 66)) w2.heap.size 66 35 (sv v t pv s)) := Blk.newAt _ (heap_alloc_new _ _) rfl
  clear S2 L2 L0 HR BO fp BZ A3 c0 c1
  go_upto_region 2 with (refine wpList_store_blk rfl 66 (.tmp 4) (.tmp 9) rfl w2.heap.size 35 (sv v t pv s) sv0 rfl rfl 66 (Blk.newAt _ (heap_alloc_new _ _) rfl) szSaid (fun i _ => sv_one _ o1 _ _ o2 _ i) ?_)
  rw [World.setRow_alloc_new]
  generalize w2.alloc (.cells (arr 35 (sv v t pv s)) 66) = w3 at L3 S3 BO3 BZ3 BS3 ⊢
  generalize w2.heap.size = zs at BS3 ⊢
  have c0 : w3.cell? ⟨zb, 0, none⟩ = some (.int .i64 k) := BO3.out.cell 0 (by omega)
  by_cases ho : objOk k l
  · rw [decide_eq_true ho]
    by_cases hk : k = 3
    · subst hk
      obtain ⟨es, n, c, R1, R2, rfl, rfl, hf⟩ := S3.out
      have T0 := Lib.hid ((hf ho).2.2.1 rfl)
      have R3 := Lib.hid R2
      have HO := Lib.hid ho
      have HP := o2
      have TC : Hid (At w3 zs 1 34 (cv c.tree pv c.text)) := BS3.out.at0.part 1 34 _ (by omega) fun j hj => by
        show sv v c.tree pv c.text (1 + j) = _
        unfold sv
        rw [if_neg (by omega), show 1 + j - 1 = j by omega]
      clear hf ho S3 R1 R2 BO3
      go_upto_region 4 with fail
      refine wp_region_lit ?_
      refine wpList_valG (by kernel_rfl) (ex_fieldP fS1 (.tmp 4) rfl zs 0 rfl 1 rfl) ?_
      try simp only [Act.put, List.setIfInBounds_toArray, List.set_cons_zero, List.set_cons_succ]
      refine wpList_valG (by kernel_rfl) (ex_load 37 (.tmp 19) rfl zs 1 34 (cv c.tree pv c.text) rfl Tryz.underlying37 rfl szCommit TC.out) ?_
      try simp only [Act.put, List.setIfInBounds_toArray, List.set_cons_zero, List.set_cons_succ]
      refine wpList_unitG (by kernel_rfl) (ex_store 37 (.tmp 2) (.tmp 20) rfl (zb + 1) 0 34 (cv c.tree pv c.text) rfl rfl (BZ3.out.there 0 34 (by omega)) szCommit (fun i _ => cv_one _ _ HP _ i)) ?_
      try simp only [Act.put, List.setIfInBounds_toArray, List.set_cons_zero, List.set_cons_succ]
      refine wpList_valS (v := ?_) (by kernel_rfl) ?_ ?_
      rotate_left 1
      · (go_simp; try with_reducible rfl)
      try simp only [Act.put, List.setIfInBounds_toArray, List.set_cons_zero, List.set_cons_succ]
      refine wpList_nil ?_
      have B4 := BZ3.out.over (cv c.tree pv c.text)
      have K4 : Keep (fun b => b ≠ zb + 1) w3 (w3.setCells (zb + 1) 0 (arr 34 (cv c.tree pv c.text)).toList) := keep_setCells _ 0 w3
      have L4 : Hid (Below w.heap.size w (w3.setCells (zb + 1) 0 (arr 34 (cv c.tree pv c.text)).toList)) := ((keepAll L3.out).trans (K4.mono fun b hb _ => by have := HZ.out; omega)).below (Nat.le_refl _)
      have R4 : Hid (Row (w3.setCells (zb + 1) 0 (arr 34 (cv c.tree pv c.text)).toList) pv 32 (pc c.par) c.n) := R3.out.keep K4 (fun g o m cap h => by have := FP.out g o m cap h; have := ZL.out; omega)
      clear BZ3 L3 BS3 K4 R3
      generalize w3.setCells (zb + 1) 0 (arr 34 (cv c.tree pv c.text)).toList = w4 at B4 L4 R4 ⊢
      go_wp2
      exact bodyPost_ret (results_blk2 rfl _ _ (zb + 1) 37 34 (cv c.tree pv c.text) B4 _ rfl Tryz.underlying37 rfl szCommit) rfl ⟨fun _ => ⟨c, pv, rfl, R4.out, T0.out⟩, fun h => absurd (by first | exact ⟨HO.out, rfl⟩ | exact ⟨HO.out, trivial⟩ | exact HO.out) h, L4.out⟩
    · have NO : Hid (¬ (objOk k l ∧ k = 3)) := fun h => hk h.2
      have tk : (k != 3) = true := by simpa using hk
      clear hk ho
      go_upto_region 3 with fail
      refine wp_region_lit ?_
      refine wpList_valS (v := ?_) (by kernel_rfl) ?_ ?_
      rotate_left 1
      · (go_simp; try with_reducible rfl)
      try simp only [Act.put, List.setIfInBounds_toArray, List.set_cons_zero, List.set_cons_succ]
      refine wpList_unitG (by kernel_rfl) (ex_store 37 (.tmp 2) (.tmp 18) rfl (zb + 1) 0 34 (cv (fun _ => 0) (.slice none 0 0) []) rfl rfl (BZ3.out.there 0 34 (by omega)) szCommit (fun i _ => cv_one _ _ rfl _ i)) ?_
      try simp only [Act.put, List.setIfInBounds_toArray, List.set_cons_zero, List.set_cons_succ]
      refine wpList_valS (v := ?_) (by kernel_rfl) ?_ ?_
      rotate_left 1
      · (go_simp; try with_reducible rfl)
      try simp only [Act.put, List.setIfInBounds_toArray, List.set_cons_zero, List.set_cons_succ]
      refine wpList_nil ?_
      have B4 := BZ3.out.over (cv (fun _ => 0) (.slice none 0 0) [])
      have L4 : Hid (Below w.heap.size w (w3.setCells (zb + 1) 0 (arr 34 (cv (fun _ => 0) (.slice none 0 0) [])).toList)) := ((keepAll L3.out).trans ((keep_setCells (b := zb + 1) _ 0 w3).mono fun b hb _ => by have := HZ.out; omega)).below (Nat.le_refl _)
      clear BZ3 L3 S3 BO3 BS3
      generalize w3.setCells (zb + 1) 0 (arr 34 (cv (fun _ => 0) (.slice none 0 0) [])).toList = w4 at B4 L4 ⊢
      go_wp2
      exact bodyPost_ret (results_blk2 rfl _ _ (zb + 1) 37 34 (cv (fun _ => 0) (.slice none 0 0) []) B4 _ rfl Tryz.underlying37 rfl szCommit) rfl ⟨fun h1 => absurd h1 NO.out, fun _ => rfl, L4.out⟩
  · have NO : Hid (¬ (objOk k l ∧ k = 3)) := fun h => ho h.1
    rw [decide_eq_false ho]
    clear ho
    go_upto_region 3 with fail
    refine wp_region_lit ?_
    refine wpList_valS (v := ?_) (by kernel_rfl) ?_ ?_
    rotate_left 1
    · (go_simp; try with_reducible rfl)
    try simp only [Act.put, List.setIfInBounds_toArray, List.set_cons_zero, List.set_cons_succ]
    refine wpList_unitG (by kernel_rfl) (ex_store 37 (.tmp 2) (.tmp 18) rfl (zb + 1) 0 34 (cv (fun _ => 0) (.slice none 0 0) []) rfl rfl (BZ3.out.there 0 34 (by omega)) szCommit (fun i _ => cv_one _ _ rfl _ i)) ?_
    try simp only [Act.put, List.setIfInBounds_toArray, List.set_cons_zero, List.set_cons_succ]
    refine wpList_valS (v := ?_) (by kernel_rfl) ?_ ?_
    rotate_left 1
    · (go_simp; try with_reducible rfl)
    try simp only [Act.put, List.setIfInBounds_toArray, List.set_cons_zero, List.set_cons_succ]
    refine wpList_nil ?_
    have B4 := BZ3.out.over (cv (fun _ => 0) (.slice none 0 0) [])
    have L4 : Hid (Below w.heap.size w (w3.setCells (zb + 1) 0 (arr 34 (cv (fun _ => 0) (.slice none 0 0) [])).toList)) := ((keepAll L3.out).trans ((keep_setCells (b := zb + 1) _ 0 w3).mono fun b hb _ => by have := HZ.out; omega)).below (Nat.le_refl _)
    clear BZ3 L3 S3 BO3 BS3
    generalize w3.setCells (zb + 1) 0 (arr 34 (cv (fun _ => 0) (.slice none 0 0) [])).toList = w4 at B4 L4 ⊢
    go_wp2
    exact bodyPost_ret (results_blk2 rfl _ _ (zb + 1) 37 34 (cv (fun _ => 0) (.slice none 0 0) []) B4 _ rfl Tryz.underlying37 rfl szCommit) rfl ⟨fun h1 => absurd h1 NO.out, fun _ => rfl, L4.out⟩
end Go.Proofs.YtlbclfponongbaaGreatDoor
/- The same commits? One commit of one body. -/
namespace Go.Proofs.YtlbclfponongbaaGreatDoor
open Go.RowKit Classical
theorem ne_of_bs (a b : List UInt8) : (a = b → ((bs a).toList == (bs b).toList) = true) ∧ (¬ a = b → ((bs a).toList == (bs b).toList) = false) := ⟨fun h => by rw [bs_eq]; exact decide_eq_true h, fun h => by rw [bs_eq]; exact decide_eq_false h⟩
def sameC (c d : Com) : Prop := same32 c.tree d.tree ∧ c.text = d.text ∧ c.n = d.n ∧ ∀ i, i < c.n → same32 (c.par i) (d.par i)
set_option maxHeartbeats 2000000 in
set_option maxRecDepth 100000 in
theorem samecom_aux (c d : Com) (u v : Value) (w : World) (r : Bool) (hT : Hid (sameC c d → r = true)) (hF : Hid (¬ sameC c d → r = false)) (hX : Row w u 32 (pc c.par) c.n) (hY : Row w v 32 (pc d.par) d.n) (hn : c.n ≤ 9223372036854775807) (hk : d.n ≤ 9223372036854775807) :
    Calls Tryz.prog 12 #[.agg (arr 34 (cv c.tree u c.text)), .agg (arr 34 (cv d.tree v d.text))] w fun e w' => e = .returned (.bool r) ∧ Below w.heap.size w w' := by
  obtain ⟨t, n, p, s⟩ := c
  obtain ⟨t', k, p', s'⟩ := d
  dsimp only at *
  have B1 : Blk (w.alloc (.cells (arr 34 (cv t u s)) 37)) w.heap.size 37 34 (cv t u s) := Blk.newAt _ (heap_alloc_new _ _) rfl
  have A0 : Below w.heap.size w (w.alloc (.cells (arr 34 (cv t u s)) 37)) := (Below.refl _ _).alloc (Nat.le_refl _) _
  have BZ := Lib.hid (Blk.newAt _ (heap_alloc2_new w _ _) rfl : Blk ((w.alloc (.cells (arr 34 (cv t u s)) 37)).alloc (.cells (arr 34 (cv t' v s')) 37)) (w.heap.size + 1) 37 34 (cv t' v s'))
  have A1 := (Below.refl (w.alloc (.cells (arr 34 (cv t u s)) 37)).heap.size (w.alloc (.cells (arr 34 (cv t u s)) 37))).alloc (Nat.le_refl _) (.cells (arr 34 (cv t' v s')) 37)
  have L0 := Lib.hid (A0.trans (A1.mono A0.size))
  have BC := Lib.hid (B1.below A1 B1.lt)
  have X0 := Lib.hid (hX.below L0.out)
  have Y0 := Lib.hid (hY.below L0.out)
  clear B1 A0 A1 hX hY
  go_enter Tryz.func12, Tryz.ntmps12
  go_upto_region 1 with fail
  change Code.wp _ _ _ _ ((w.alloc (.cells (arr 34 (cv t u s)) 37)).alloc (.cells (arr 34 (cv t' v s')) 37))
  generalize w.heap.size = zb at BC BZ ⊢
  generalize (w.alloc (.cells (arr 34 (cv t u s)) 37)).alloc (.cells (arr 34 (cv t' v s')) 37) = w1 at L0 BC BZ X0 Y0 ⊢
  obtain ⟨c32, c33, ct⟩ := cv_parts BC.out
  obtain ⟨d32, d33, dt⟩ := cv_parts BZ.out
  have T1 := Lib.hid ct
  have T2 := Lib.hid dt
  have q := eD w1 10000 (by omega) t t'
  have E1 := Lib.hid (ne_of_bs s s')
  generalize bs s = sb at c33 E1
  generalize bs s' = sb' at d33 E1
  clear ct dt
  refine wp_region_lit ?_
  refine wpList_valG (by kernel_rfl) (ex_fieldP fC0 (.tmp 2) rfl zb 0 rfl 0 rfl) ?_
  try simp only [Act.put, List.setIfInBounds_toArray, List.set_cons_zero, List.set_cons_succ]
  refine wpList_valG (by kernel_rfl) (ex_load 29 (.tmp 5) rfl zb 0 32 (bv t) rfl Tryz.underlying29 rfl sz30 T1.out) ?_
  try simp only [Act.put, List.setIfInBounds_toArray, List.set_cons_zero, List.set_cons_succ]
  refine wpList_valG (by kernel_rfl) (ex_fieldP fC0 (.tmp 3) rfl (zb + 1) 0 rfl 0 rfl) ?_
  try simp only [Act.put, List.setIfInBounds_toArray, List.set_cons_zero, List.set_cons_succ]
  refine wpList_valG (by kernel_rfl) (ex_load 29 (.tmp 7) rfl (zb + 1) 0 32 (bv t') rfl Tryz.underlying29 rfl sz30 T2.out) ?_
  try simp only [Act.put, List.setIfInBounds_toArray, List.set_cons_zero, List.set_cons_succ]
  by_cases h1 : same32 t t'
  · rw [decide_eq_true h1] at q
    have H1 := Lib.hid h1
    clear h1
    refine wpList_valS (v := ?_) (by kernel_rfl) ?_ ?_
    rotate_left 1
    · (go_simp; try with_reducible rfl)
    try simp only [Act.put, List.setIfInBounds_toArray, List.set_cons_zero, List.set_cons_succ]
    refine wpList_valS (v := ?_) (by kernel_rfl) ?_ ?_
    rotate_left 1
    · (go_simp; try with_reducible rfl)
    try simp only [Act.put, List.setIfInBounds_toArray, List.set_cons_zero, List.set_cons_succ]
    refine wpList_valG (by kernel_rfl) (ex_fieldP fC2 (.tmp 2) rfl zb 0 rfl 33 rfl) ?_
    try simp only [Act.put, List.setIfInBounds_toArray, List.set_cons_zero, List.set_cons_succ]
    refine wpList_valS (v := ?_) (by kernel_rfl) ?_ ?_
    rotate_left 1
    · (go_simp; try with_reducible rfl)
    try simp only [Act.put, List.setIfInBounds_toArray, List.set_cons_zero, List.set_cons_succ]
    refine wpList_valG (by kernel_rfl) (ex_fieldP fC2 (.tmp 3) rfl (zb + 1) 0 rfl 33 rfl) ?_
    try simp only [Act.put, List.setIfInBounds_toArray, List.set_cons_zero, List.set_cons_succ]
    refine wpList_valS (v := ?_) (by kernel_rfl) ?_ ?_
    rotate_left 1
    · (go_simp; try with_reducible rfl)
    try simp only [Act.put, List.setIfInBounds_toArray, List.set_cons_zero, List.set_cons_succ]
    by_cases h2 : s = s'
    · have e2 : (sb.toList == sb'.toList) = true := E1.out.1 h2
      have H2 := Lib.hid h2
      have HI := sameids_any p p' n k u v w1 X0.out Y0.out hn hk
      have HA := Lib.hid (And.intro hT.out hF.out)
      have ER : decide (n = k ∧ ∀ i, i < n → same32 (p i) (p' i)) = r := by
        by_cases h3 : n = k ∧ ∀ i, i < n → same32 (p i) (p' i)
        · rw [decide_eq_true h3, HA.out.1 ⟨H1.out, H2.out, h3⟩]
        · rw [decide_eq_false h3, HA.out.2 fun h => h3 h.2.2]
      rw [ER] at HI
      replace HI := Lib.hid HI
      clear h2 hn hk X0 Y0 ER
      refine wpList_valS (v := ?_) (by kernel_rfl) ?_ ?_
      rotate_left 1
      · (go_simp; try with_reducible rfl)
      try simp only [Act.put, List.setIfInBounds_toArray, List.set_cons_zero, List.set_cons_succ]
      refine wpList_valS (v := ?_) (by kernel_rfl) ?_ ?_
      rotate_left 1
      · (go_simp; try with_reducible rfl)
      try simp only [Act.put, List.setIfInBounds_toArray, List.set_cons_zero, List.set_cons_succ]
      refine wpList_valS (v := ?_) (by kernel_rfl) ?_ ?_
      rotate_left 1
      · (go_simp; try with_reducible rfl)
      try simp only [Act.put, List.setIfInBounds_toArray, List.set_cons_zero, List.set_cons_succ]
      refine wpList_valG (by kernel_rfl) (ex_fieldP fC1 (.tmp 2) rfl zb 0 rfl 32 rfl) ?_
      try simp only [Act.put, List.setIfInBounds_toArray, List.set_cons_zero, List.set_cons_succ]
      refine wpList_valS (v := ?_) (by kernel_rfl) ?_ ?_
      rotate_left 1
      · (go_simp; try with_reducible rfl)
      try simp only [Act.put, List.setIfInBounds_toArray, List.set_cons_zero, List.set_cons_succ]
      refine wpList_valG (by kernel_rfl) (ex_fieldP fC1 (.tmp 3) rfl (zb + 1) 0 rfl 32 rfl) ?_
      try simp only [Act.put, List.setIfInBounds_toArray, List.set_cons_zero, List.set_cons_succ]
      refine wpList_valS (v := ?_) (by kernel_rfl) ?_ ?_
      rotate_left 1
      · (go_simp; try with_reducible rfl)
      try simp only [Act.put, List.setIfInBounds_toArray, List.set_cons_zero, List.set_cons_succ]
      refine wpList_callG (by kernel_rfl) fun K hK => ?_
      go_simp
      refine (HI.out).mono ?_
      rintro e w2 ⟨rfl, L2⟩
      refine hK _ _ ?_
      clear hK K
      try simp only [Act.put, List.setIfInBounds_toArray, List.set_cons_zero, List.set_cons_succ]
      refine wpList_valS (v := ?_) (by kernel_rfl) ?_ ?_
      rotate_left 1
      · (go_simp; try with_reducible rfl)
      try simp only [Act.put, List.setIfInBounds_toArray, List.set_cons_zero, List.set_cons_succ]
      refine wpList_valS (v := ?_) (by kernel_rfl) ?_ ?_
      rotate_left 1
      · (go_simp; try with_reducible rfl)
      try simp only [Act.put, List.setIfInBounds_toArray, List.set_cons_zero, List.set_cons_succ]
      refine wpList_nil ?_
      have L3 := Lib.hid (L0.out.trans (L2.mono L0.out.size))
      clear L0 L2
      go_wp2
      go_ret
      exact ⟨rfl, L3.out⟩
    · have e2 : (sb.toList == sb'.toList) = false := E1.out.2 h2
      have ER := Lib.hid (hF.out fun h => h2 h.2.1)
      clear h2
      refine wpList_valS (v := ?_) (by kernel_rfl) ?_ ?_
      rotate_left 1
      · (go_simp; try with_reducible rfl)
      try simp only [Act.put, List.setIfInBounds_toArray, List.set_cons_zero, List.set_cons_succ]
      refine wpList_valS (v := ?_) (by kernel_rfl) ?_ ?_
      rotate_left 1
      · (go_simp; try with_reducible rfl)
      try simp only [Act.put, List.setIfInBounds_toArray, List.set_cons_zero, List.set_cons_succ]
      refine wpList_valS (v := ?_) (by kernel_rfl) ?_ ?_
      rotate_left 1
      · (go_simp; try with_reducible rfl)
      try simp only [Act.put, List.setIfInBounds_toArray, List.set_cons_zero, List.set_cons_succ]
      refine wpList_skipG (by kernel_rfl) ?_
      try simp only [Act.put, List.setIfInBounds_toArray, List.set_cons_zero, List.set_cons_succ]
      refine wpList_skipG (by kernel_rfl) ?_
      try simp only [Act.put, List.setIfInBounds_toArray, List.set_cons_zero, List.set_cons_succ]
      refine wpList_skipG (by kernel_rfl) ?_
      try simp only [Act.put, List.setIfInBounds_toArray, List.set_cons_zero, List.set_cons_succ]
      refine wpList_skipG (by kernel_rfl) ?_
      try simp only [Act.put, List.setIfInBounds_toArray, List.set_cons_zero, List.set_cons_succ]
      refine wpList_skipG (by kernel_rfl) ?_
      try simp only [Act.put, List.setIfInBounds_toArray, List.set_cons_zero, List.set_cons_succ]
      refine wpList_valS (v := ?_) (by kernel_rfl) ?_ ?_
      rotate_left 1
      · (go_simp; try with_reducible rfl)
      try simp only [Act.put, List.setIfInBounds_toArray, List.set_cons_zero, List.set_cons_succ]
      refine wpList_valS (v := ?_) (by kernel_rfl) ?_ ?_
      rotate_left 1
      · (go_simp; try with_reducible rfl)
      try simp only [Act.put, List.setIfInBounds_toArray, List.set_cons_zero, List.set_cons_succ]
      refine wpList_nil ?_
      go_wp2
      go_ret
      rw [ER.out]
      exact ⟨rfl, L0.out⟩
  · rw [decide_eq_false h1] at q
    have ER := Lib.hid (hF.out fun h => h1 h.1)
    clear h1
    refine wpList_valS (v := ?_) (by kernel_rfl) ?_ ?_
    rotate_left 1
    · (go_simp; try with_reducible rfl)
    try simp only [Act.put, List.setIfInBounds_toArray, List.set_cons_zero, List.set_cons_succ]
    refine wpList_valS (v := ?_) (by kernel_rfl) ?_ ?_
    rotate_left 1
    · (go_simp; try with_reducible rfl)
    try simp only [Act.put, List.setIfInBounds_toArray, List.set_cons_zero, List.set_cons_succ]
    refine wpList_skipG (by kernel_rfl) ?_
    try simp only [Act.put, List.setIfInBounds_toArray, List.set_cons_zero, List.set_cons_succ]
    refine wpList_skipG (by kernel_rfl) ?_
    try simp only [Act.put, List.setIfInBounds_toArray, List.set_cons_zero, List.set_cons_succ]
    refine wpList_skipG (by kernel_rfl) ?_
    try simp only [Act.put, List.setIfInBounds_toArray, List.set_cons_zero, List.set_cons_succ]
    refine wpList_skipG (by kernel_rfl) ?_
    try simp only [Act.put, List.setIfInBounds_toArray, List.set_cons_zero, List.set_cons_succ]
    refine wpList_skipG (by kernel_rfl) ?_
    try simp only [Act.put, List.setIfInBounds_toArray, List.set_cons_zero, List.set_cons_succ]
    refine wpList_valS (v := ?_) (by kernel_rfl) ?_ ?_
    rotate_left 1
    · (go_simp; try with_reducible rfl)
    try simp only [Act.put, List.setIfInBounds_toArray, List.set_cons_zero, List.set_cons_succ]
    refine wpList_valS (v := ?_) (by kernel_rfl) ?_ ?_
    rotate_left 1
    · (go_simp; try with_reducible rfl)
    try simp only [Act.put, List.setIfInBounds_toArray, List.set_cons_zero, List.set_cons_succ]
    refine wpList_skipG (by kernel_rfl) ?_
    try simp only [Act.put, List.setIfInBounds_toArray, List.set_cons_zero, List.set_cons_succ]
    refine wpList_skipG (by kernel_rfl) ?_
    try simp only [Act.put, List.setIfInBounds_toArray, List.set_cons_zero, List.set_cons_succ]
    refine wpList_skipG (by kernel_rfl) ?_
    try simp only [Act.put, List.setIfInBounds_toArray, List.set_cons_zero, List.set_cons_succ]
    refine wpList_skipG (by kernel_rfl) ?_
    try simp only [Act.put, List.setIfInBounds_toArray, List.set_cons_zero, List.set_cons_succ]
    refine wpList_skipG (by kernel_rfl) ?_
    try simp only [Act.put, List.setIfInBounds_toArray, List.set_cons_zero, List.set_cons_succ]
    refine wpList_valS (v := ?_) (by kernel_rfl) ?_ ?_
    rotate_left 1
    · (go_simp; try with_reducible rfl)
    try simp only [Act.put, List.setIfInBounds_toArray, List.set_cons_zero, List.set_cons_succ]
    refine wpList_valS (v := ?_) (by kernel_rfl) ?_ ?_
    rotate_left 1
    · (go_simp; try with_reducible rfl)
    try simp only [Act.put, List.setIfInBounds_toArray, List.set_cons_zero, List.set_cons_succ]
    refine wpList_nil ?_
    go_wp2
    go_ret
    rw [ER.out]
    exact ⟨rfl, L0.out⟩
theorem samecom_any (c d : Com) (u v : Value) (w : World) (hX : Row w u 32 (pc c.par) c.n) (hY : Row w v 32 (pc d.par) d.n) (hn : c.n ≤ 9223372036854775807) (hk : d.n ≤ 9223372036854775807) :
    Calls Tryz.prog 12 #[.agg (arr 34 (cv c.tree u c.text)), .agg (arr 34 (cv d.tree v d.text))] w fun e w' => e = .returned (.bool (decide (sameC c d))) ∧ Below w.heap.size w w' :=
  samecom_aux c d u v w _ (fun h => decide_eq_true h) (fun h => decide_eq_false h) hX hY hn hk
end Go.Proofs.YtlbclfponongbaaGreatDoor
/- One commit of one body; the entries of a tree, one by one. -/
namespace Go.Proofs.YtlbclfponongbaaGreatDoor
open Go.RowKit Classical
theorem dg_four {n : Nat} (h : n ≤ 64) : dg n = [UInt8.ofNat n] := dg_low (by omega)
theorem ofNat_inj {a b : Nat} (ha : a < 256) (hb : b < 256) (h : UInt8.ofNat a = UInt8.ofNat b) : a = b := by
  have := congrArg UInt8.toNat h
  rw [UInt8.toNat_ofNat', UInt8.toNat_ofNat'] at this
  omega
theorem pb_inj {p q : Nat → Nat → UInt8} : ∀ {n : Nat}, pb p n = pb q n → ∀ i, i < n → same32 (p i) (q i)
  | 0, _, i, hi => absurd hi (by omega)
  | n + 1, h, i, hi => by
    have h2 : pb p n ++ idL (p n) = pb q n ++ idL (q n) := h
    obtain ⟨a, b⟩ := List.append_inj h2 (by rw [pb_len, pb_len])
    by_cases c : i = n
    · rw [c]; exact idL_inj b
    · exact pb_inj a i (by omega)
theorem com_one {l : List UInt8} {c d : Com} (h : IsCom l c) (g : IsCom l d) : sameC c d := by
  obtain ⟨hc, h1⟩ := h
  obtain ⟨hd, h2⟩ := g
  have e : comB c = comB d := h1.symm.trans h2
  have n4 := hc.1
  have m4 := hd.1
  have t4 := hc.2.1
  have u4 := hd.2.1
  unfold comB tx at e
  rw [dg_four (by omega), dg_four (n := d.n) (by omega), clamp_small _ (by omega), clamp_small d.text.length (by omega), dg_four (by omega), dg_four (n := d.text.length) (by omega)] at e
  simp only [List.append_assoc] at e
  obtain ⟨e1, e2⟩ := List.append_inj e (by rw [idL_length, idL_length])
  simp only [List.cons_append, List.nil_append, List.cons.injEq] at e2
  have en := ofNat_inj (by omega) (by omega) e2.1
  obtain ⟨e3, e4⟩ := List.append_inj e2.2 (by rw [pb_len, pb_len, en])
  simp only [List.cons.injEq] at e4
  refine ⟨idL_inj e1, e4.2, en, ?_⟩
  rw [← en] at e3
  exact pb_inj e3
theorem member {es gs fs : Nat → Ent} {n : Nat} (hp : PermE es gs n) (he : ∀ i, i < n → eqE (gs i) (fs i)) (j : Nat) (hj : j < n) : ∃ x, x < n ∧ eqE (fs x) (es j) := by
  have h : es j ∈ lst gs n := hp.mem_iff.1 (by unfold lst; exact List.mem_map.2 ⟨j, List.mem_range.2 hj, rfl⟩)
  obtain ⟨x, hx, e⟩ := lst_mem h
  refine ⟨x, hx, ?_⟩
  have := he x hx
  rw [← e]
  exact ⟨this.1.symm, this.2.1.symm, fun i hi => (this.2.2 i hi).symm⟩
theorem not_ge {fs : Nat → Ent} {n m : Nat} (h : entsOk fs n) (hm : m + 1 < n) : Op.bytesLess (bs (fs m).name).toList (bs (fs (m + 1)).name).toList = true := by
  rw [toList_bs, toList_bs]; exact h.2.2 m hm
structure Tl (w0 : World) (z : Nat) (f : Nat → Value) (w : World) : Prop where
  keep : Below w0.heap.size w0 w
  blk : Blk w z 37 34 f
theorem Tl.step {w0 : World} {z : Nat} {f : Nat → Value} {w w' : World} (h : Tl w0 z f w) (hb : Below w.heap.size w w') : Tl w0 z f w' := ⟨h.keep.trans (hb.mono h.keep.size), h.blk.below hb h.blk.lt⟩
theorem Tl.alloc {w0 : World} {z : Nat} {f : Nat → Value} {w : World} (h : Tl w0 z f w) (o : Obj) : Tl w0 z f (w.alloc o) := h.step ((Below.refl _ _).alloc (Nat.le_refl _) o)
theorem Tl.start (w : World) (f : Nat → Value) : Tl w w.heap.size f (w.alloc (.cells (arr 34 f) 37)) := ⟨(Below.refl _ _).alloc (Nat.le_refl _) _, Blk.newAt _ (heap_alloc_new _ _) rfl⟩
theorem tree_obj {gs : Nat → Ent} {n : Nat} (h : entsOk gs n) : objOk 2 (tb gs n) := by
  have h1 := h.1
  have h2 := tb_le gs n fun i hi => (h.2.1 i hi).1.2.1
  exact ⟨by omega, Or.inr (Or.inl ⟨rfl, gs, n, h, rfl⟩)⟩
theorem com_obj {c : Com} (h : comOk c) : objOk 3 (comB c) := ⟨by have := comB_len c h; omega, Or.inr (Or.inr ⟨rfl, c, h, rfl⟩)⟩
end Go.Proofs.YtlbclfponongbaaGreatDoor
