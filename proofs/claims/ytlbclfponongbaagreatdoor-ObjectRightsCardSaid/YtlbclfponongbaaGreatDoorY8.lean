import Derived.Test.YtlbclfponongbaaGreatDoorY7
/- ObjectRights: where the object is right. -/
namespace Go.Proofs.YtlbclfponongbaaGreatDoor
open Go.RowKit Classical
theorem samezero (u : Value) (V : World) (h : Row V u 32 (pc zeroC.par) zeroC.n) :
    Calls Tryz.prog 12 #[.agg (arr 34 (cv zeroC.tree u zeroC.text)), .agg (arr 34 zc)] V fun e w' => e = .returned (.bool true) ∧ Below V.heap.size V w' := by
  have q := samecom_any zeroC zeroC u (.slice none 0 0) V h (Or.inl ⟨none, 0, rfl, rfl⟩) (by decide) (by decide)
  rw [decide_eq_true sameC_zero] at q
  exact q
set_option maxHeartbeats 4000000 in
set_option maxRecDepth 100000 in
theorem rights_ok (k : Int) (l : List UInt8) (W : World) (hT : Tie W) (hl : l.length ≤ 6000) (ho : objOk k l) :
    Calls Tryz.prog 3 #[.agg #[.int .i64 k, .string (bs l)]] W fun e w' => e = .returned (.bool true) ∧ Below W.heap.size W w' := by
  have HA := Lib.hid (fun W => alive_any W)
  have TI := Lib.hid hT
  have t1 : ((bs l).size : Int) ≤ 6000 := by rw [bs_size]; omega
  have T0 : Hid (LA W W.heap.size k l (W.alloc (.cells #[.int .i64 k, .string (bs l)] 23))) := ⟨(Below.refl _ _).alloc (Nat.le_refl _) _, Blk.newAt _ (heap_alloc_new _ _) rfl⟩
  have hk := obj_kind ho
  obtain ⟨F, hF⟩ : ∃ F, F = bs (fb k l) := ⟨_, rfl⟩
  obtain ⟨D, hD⟩ : ∃ D, D = idD k l := ⟨_, rfl⟩
  obtain ⟨g, hg⟩ : ∃ g : Int, g = if k = 2 then 0 else 1 := ⟨_, rfl⟩
  obtain ⟨kk, hkk⟩ : ∃ kk : Int, kk = if k = 3 then 0 else 1 := ⟨_, rfl⟩
  have HFr : Hid (∀ V, Calls Tryz.prog 5 #[.agg #[.int .i64 k, .string (bs l)]] V fun e w' => e = .returned (.tuple #[.string F, .int .i64 0]) ∧ Below V.heap.size V w') := fun V => (frame_any k l V).mono fun e w' h => ⟨by rw [hF]; exact h.1 ho, h.2.2⟩
  have HId : Hid (∀ V, Tie V → Calls Tryz.prog 6 #[.agg #[.int .i64 k, .string (bs l)]] V fun e w' => e = .returned (.tuple #[.agg (arr 32 (bv D)), .bool true]) ∧ Below V.heap.size V w') := fun V t => (oid_any k l V t).mono fun e w' h => ⟨by rw [hD]; exact h.1 ho, h.2.2⟩
  have HQF : Hid (∀ V, Calls Tryz.prog 13 #[.agg #[.int .i64 k, .string (bs l)]] V fun e w' => e = .returned (.string F) ∧ Below V.heap.size V w') := fun V => by rw [hF]; exact qframe_any k l V hk ho.1
  have HQI : Hid (∀ V, Calls Tryz.prog 14 #[.agg #[.int .i64 k, .string (bs l)]] V fun e w' => e = .returned (.agg (arr 32 (bv D))) ∧ Below V.heap.size V w') := fun V => by rw [hD]; exact qidd_any k l V hk ho.1
  have HEn : Hid (∀ V, Calls Tryz.prog 7 #[.agg #[.int .i64 k, .string (bs l)]] V fun e w' => ∃ v es n, e = .returned (.tuple #[v, .int .i64 g]) ∧ Row w' v 34 (ec es) n ∧ ((k = 2 → IsTree l es n) ∧ (k ≠ 2 → n = 0)) ∧ Below V.heap.size V w') := fun V => by
    by_cases h2 : k = 2
    · rw [hg, if_pos h2]
      exact (entries_any k l V).mono fun e w' h => by
        obtain ⟨v, es, n, a, b, c⟩ := h.1 ⟨ho, h2⟩
        exact ⟨v, es, n, a, b, ⟨fun _ => c, fun q => absurd h2 q⟩, h.2.2⟩
    · rw [hg, if_neg h2]
      exact (entries_any k l V).mono fun e w' h => ⟨_, fun _ => ⟨[], 0, fun _ => 0⟩, 0, h.2.1 (fun q => h2 q.2), Or.inl ⟨none, 0, rfl, rfl⟩, ⟨fun q => absurd q h2, fun _ => rfl⟩, h.2.2⟩
  have HCo : Hid (∀ V, Calls Tryz.prog 8 #[.agg #[.int .i64 k, .string (bs l)]] V fun e w' => ∃ (c : Com) (u : Value), e = .returned (.tuple #[.agg (arr 34 (cv c.tree u c.text)), .int .i64 kk]) ∧ Row w' u 32 (pc c.par) c.n ∧ ((k = 3 → IsCom l c) ∧ (k ≠ 3 → c = zeroC)) ∧ Below V.heap.size V w') := fun V => by
    by_cases h3 : k = 3
    · rw [hkk, if_pos h3]
      exact (commits_any k l V).mono fun e w' h => by
        obtain ⟨c, u, a, b, q⟩ := h.1 ⟨ho, h3⟩
        exact ⟨c, u, a, b, ⟨fun _ => q, fun q => absurd h3 q⟩, h.2.2⟩
    · rw [hkk, if_neg h3]
      exact (commits_any k l V).mono fun e w' h => ⟨zeroC, .slice none 0 0, h.2.1 (fun q => h3 q.2), Or.inl ⟨none, 0, rfl, rfl⟩, ⟨fun q => absurd q h3, fun _ => rfl⟩, h.2.2⟩
  have HCh : Hid (∀ V, Calls Tryz.prog 9 #[.agg #[.int .i64 k, .string (bs l)]] V fun e w' => ∃ v H m, e = .returned v ∧ Row w' v 33 (hc H) m ∧ Kids k l H m ∧ Below V.heap.size V w') := fun V => children_any k l V
  have HQC : Hid (∀ V, Calls Tryz.prog 16 #[.agg #[.int .i64 k, .string (bs l)]] V fun e w' => ∃ v H m, e = .returned v ∧ Row w' v 33 (hc H) m ∧ Kids k l H m ∧ Below V.heap.size V w') := fun V => qchildren_any k l V ho
  have HQ : Hid (∀ V, Calls Tryz.prog 10 #[.agg #[.int .i64 k, .string (bs l)]] V fun e w' => e = .returned (.bool true) ∧ Below V.heap.size V w') := fun V => by
    have h := qright_any k l V
    rw [decide_eq_true ho] at h
    exact h
  have HR : Hid (∀ V, Calls Tryz.prog 11 #[.agg #[.int .i64 k, .string (bs l)]] V fun e w' => e = .returned (.bool true) ∧ Below V.heap.size V w') := fun V => by
    have h := right_any k l V
    rw [decide_eq_true ho] at h
    exact h
  have HG := Lib.hid hg
  have HK := Lib.hid hkk
  have HO := Lib.hid ho
  clear hk hF hD hg hkk ho
  clear hT hl
  go_enter Tryz.func3, Tryz.ntmps3
  go_upto_region 1 with fail
  change Code.wp _ _ _ _ (W.alloc (.cells #[.int .i64 k, .string (bs l)] 23))
  generalize W.alloc (.cells #[.int .i64 k, .string (bs l)] 23) = w1 at T0 ⊢
  generalize W.heap.size = z at T0 ⊢
  go_wp2_with fail
  refine (HA.out _).mono ?_
  rintro e w2 ⟨rfl, L2⟩
  have T2 := Lib.hid (T0.out.step L2)
  clear L2 T0
  obtain ⟨c0, c1⟩ := T2.out.cells
  go_upto_region 5 with fail
  clear t1
  go_wp2_with fail
  refine (HFr.out _).mono ?_
  rintro e w3 ⟨rfl, L3⟩
  have T3 := Lib.hid (T2.out.step L3)
  clear L3 T2 c0 c1 HFr
  obtain ⟨c0, c1⟩ := T3.out.cells
  go_upto_region 6 with fail
  go_wp2_with fail
  refine (HId.out _ (TI.out.below T3.out.keep)).mono ?_
  rintro e w4 ⟨rfl, L4⟩
  have T4 := Lib.hid (T3.out.step L4)
  clear L4 T3 c0 c1 HId
  go_upto_region 7 with (refine wpList_store_blk rfl 29 (.tmp 5) (.tmp 31) rfl w4.heap.size 32 (bv D) (bv fun _ => 0) rfl rfl 29 (Blk.newAt _ (heap_alloc_new _ _) rfl) sz30 (fun _ _ => rfl) ?_)
  rw [World.setRow_alloc_new]
  have T5 : Hid (LB W z k l w4.heap.size D (w4.alloc (.cells (arr 32 (bv D)) 29))) := ⟨T4.out.step ((Below.refl _ _).alloc (Nat.le_refl _) _), Blk.newAt _ (heap_alloc_new _ _) rfl⟩
  clear T4
  generalize w4.alloc (.cells (arr 32 (bv D)) 29) = w5 at T5 ⊢
  generalize w4.heap.size = ib at T5 ⊢
  obtain ⟨c0, c1⟩ := T5.out.a.cells
  go_wp2_with fail
  refine (HEn.out _).mono ?_
  rintro e w6 ⟨v, es, n, rfl, R6, E6, L6⟩
  have T6 : Hid (LC W z k l ib D v es n w6) := ⟨T5.out.step L6, R6⟩
  have EE := Lib.hid E6
  clear L6 T5 c0 c1 HEn R6 E6
  go_upto_region 8 with fail
  obtain ⟨c0, c1⟩ := T6.out.b.a.cells
  go_wp2_with fail
  refine (HCo.out _).mono ?_
  rintro e w7 ⟨c, u, rfl, R7, E7, L7⟩
  have T7 := Lib.hid (T6.out.step L7)
  have CC := Lib.hid E7
  have o1 := Lib.hid (qrow_one R7)
  clear L7 T6 c0 c1 HCo E7
  go_upto_region 9 with (refine wpList_store_blk rfl 37 (.tmp 9) (.tmp 41) rfl w7.heap.size 34 (cv c.tree u c.text) zc rfl rfl 37 (Blk.newAt _ (heap_alloc_new _ _) rfl) szCommit (fun i _ => cv_one _ _ o1.out _ i) ?_)
  rw [World.setRow_alloc_new]
  have T8 : Hid (LD W z k l ib D v es n w7.heap.size c u (w7.alloc (.cells (arr 34 (cv c.tree u c.text)) 37))) := ⟨T7.out.step ((Below.refl _ _).alloc (Nat.le_refl _) _), Blk.newAt _ (heap_alloc_new _ _) rfl, R7.below ((Below.refl _ _).alloc (Nat.le_refl _) _)⟩
  clear T7 R7
  generalize w7.alloc (.cells (arr 34 (cv c.tree u c.text)) 37) = w8 at T8 ⊢
  generalize w7.heap.size = cb at T8 ⊢
  obtain ⟨c0, c1⟩ := T8.out.lc.b.a.cells
  go_wp2_with fail
  refine (HCh.out _).mono ?_
  rintro e w9 ⟨x, H, m, rfl, R9, E9, L9⟩
  have T9 : Hid (LE W z k l ib D v es n cb c u x H m w9) := ⟨T8.out.step L9, R9⟩
  have KK := Lib.hid E9
  clear L9 T8 c0 c1 HCh R9 E9
  go_upto_region 10 with fail
  obtain ⟨c0, c1⟩ := T9.out.d.lc.b.a.cells
  go_wp2_with fail
  refine (HQ.out _).mono ?_
  rintro e w10 ⟨rfl, L10⟩
  have T10 := Lib.hid (T9.out.step L10)
  clear L10 T9 c0 c1 HQ
  clear o1 TI
  go_upto_region 12 with fail
  have S0 : LE W z k l ib D v es n cb c u x H m w10.drew := T10.out.step (Below.refl _ _).drew
  have NQ := fun V => neqId_same D V
  clear T10
  refine wp_region_noPanic ?_
  refine wp_region_held_drew (S := (fun V => LE W z k l ib D v es n cb c u x H m V)) (by kernel_rfl) S0 (fun hHeld => ?_)
  refine wpAnyH_ready (rs := [0]) (by kernel_rfl) (by simp) ?_
  refine AllReadyH.cons (o := { dst := some 94, op := Op.call { callee := Callee.value (Operand.func 4), args := #[], argTypes := #[] }, type := 4, pos := "law.go:48", after := #[], guard := none }) rfl (fun K hK => ?_) AllReadyH.nil
  go_simp
  refine (HA.out _).mono ?_
  rintro e w11 ⟨rfl, L11⟩
  have Sa0 := S0.step L11
  refine hK.out _ _ Sa0 (fun hHeld0 => ?_)
  clear hK K
  try simp only [Act.put, List.setIfInBounds_toArray, List.set_cons_zero, List.set_cons_succ]
  refine wpAnyH_take (i := 1) (oi := { dst := some 95, op := Op.unOp UnOp.not 4 (Operand.tmp 94), type := 4, pos := "law.go:48", after := #[{ on := 0, ground := Ground.data }], guard := none }) (v := ?_) rfl (by kernel_rfl) (by kernel_rfl) (by kernel_rfl) (fun _ _ _ h => h) (Or.inl ⟨by kernel_rfl, ?_⟩) (by assumption) ?_
  rotate_left 1
  · (intro wS hSw; (try dsimp only at hSw); go_simp; try with_reducible rfl)
  try simp only [Act.put, List.setIfInBounds_toArray, List.set_cons_zero, List.set_cons_succ]
  refine wpAnyH_take (i := 2) (oi := { dst := some 96, op := Op.move (Operand.tmp 95), type := 4, pos := "law.go:48", after := #[{ on := 1, ground := Ground.data }, { on := 0, ground := Ground.chain }], guard := none }) (v := ?_) rfl (by kernel_rfl) (by kernel_rfl) (by kernel_rfl) (fun _ _ _ h => h) (Or.inl ⟨by kernel_rfl, ?_⟩) (by assumption) ?_
  rotate_left 1
  · (intro wS hSw; (try dsimp only at hSw); go_simp; try with_reducible rfl)
  try simp only [Act.put, List.setIfInBounds_toArray, List.set_cons_zero, List.set_cons_succ]
  refine wpAnyH_take (i := 3) (oi := { dst := some 97, op := Op.load 23 (Operand.tmp 1), type := 23, pos := "law.go:48", after := #[{ on := 2, ground := Ground.guard }], guard := some (2, false) }) rfl (by kernel_rfl) (by kernel_rfl) (by kernel_rfl) (fun _ _ _ h => h) (Or.inl ⟨by kernel_rfl, fun wS hSw => ex_load 23 (.tmp 1) rfl z 0 2 (ov k l) rfl Tryz.underlying23 rfl szObject hSw.d.lc.b.a.obj.at0⟩) (by assumption) ?_
  try simp only [Act.put, List.setIfInBounds_toArray, List.set_cons_zero, List.set_cons_succ]
  refine wpAnyH_ready (rs := [4]) (by kernel_rfl) (by simp) ?_
  refine AllReadyH.cons (o := { dst := some 98, op := Op.call { callee := Callee.value (Operand.func 11), args := #[Operand.tmp 97], argTypes := #[23] }, type := 4, pos := "law.go:48", after := #[{ on := 3, ground := Ground.data }, { on := 2, ground := Ground.chain }, { on := 2, ground := Ground.guard }], guard := some (2, false) }) rfl (fun K hK => ?_) AllReadyH.nil
  go_simp
  refine (HR.out _).mono ?_
  rintro e w12 ⟨rfl, L12⟩
  have Sa4 := Sa0.step L12
  refine hK.out _ _ Sa4 (fun hHeld4 => ?_)
  clear hK K
  try simp only [Act.put, List.setIfInBounds_toArray, List.set_cons_zero, List.set_cons_succ]
  refine wpAnyH_take (i := 5) (oi := { dst := some 99, op := Op.unOp UnOp.not 4 (Operand.tmp 98), type := 4, pos := "law.go:48", after := #[{ on := 4, ground := Ground.data }, { on := 2, ground := Ground.guard }], guard := some (2, false) }) (v := ?_) rfl (by kernel_rfl) (by kernel_rfl) (by kernel_rfl) (fun _ _ _ h => h) (Or.inl ⟨by kernel_rfl, ?_⟩) (by assumption) ?_
  rotate_left 1
  · (intro wS hSw; (try dsimp only at hSw); go_simp; try with_reducible rfl)
  try simp only [Act.put, List.setIfInBounds_toArray, List.set_cons_zero, List.set_cons_succ]
  refine wpAnyH_take (i := 6) (oi := { dst := some 100, op := Op.pick (Operand.tmp 96) (Operand.const (Value.bool true)) (Operand.tmp 99), type := 4, pos := "law.go:48", after := #[{ on := 2, ground := Ground.data }, { on := 5, ground := Ground.data }], guard := none }) (v := ?_) rfl (by kernel_rfl) (by kernel_rfl) (by kernel_rfl) (fun _ _ _ h => h) (Or.inl ⟨by kernel_rfl, ?_⟩) (by assumption) ?_
  rotate_left 1
  · (intro wS hSw; (try dsimp only at hSw); go_simp; try with_reducible rfl)
  try simp only [Act.put, List.setIfInBounds_toArray, List.set_cons_zero, List.set_cons_succ]
  refine wpAnyH_take (i := 7) (oi := { dst := some 101, op := Op.move (Operand.tmp 100), type := 4, pos := "law.go:48", after := #[{ on := 6, ground := Ground.data }, { on := 4, ground := Ground.chain }], guard := none }) (v := ?_) rfl (by kernel_rfl) (by kernel_rfl) (by kernel_rfl) (fun _ _ _ h => h) (Or.inl ⟨by kernel_rfl, ?_⟩) (by assumption) ?_
  rotate_left 1
  · (intro wS hSw; (try dsimp only at hSw); go_simp; try with_reducible rfl)
  try simp only [Act.put, List.setIfInBounds_toArray, List.set_cons_zero, List.set_cons_succ]
  refine wpAnyH_take (i := 8) (oi := { dst := some 102, op := Op.move (Operand.tmp 4), type := 25, pos := "law.go:48", after := #[{ on := 7, ground := Ground.guard }], guard := some (7, false) }) (v := ?_) rfl (by kernel_rfl) (by kernel_rfl) (by kernel_rfl) (fun _ _ _ h => h) (Or.inl ⟨by kernel_rfl, ?_⟩) (by assumption) ?_
  rotate_left 1
  · (intro wS hSw; (try dsimp only at hSw); go_simp; try with_reducible rfl)
  try simp only [Act.put, List.setIfInBounds_toArray, List.set_cons_zero, List.set_cons_succ]
  refine wpAnyH_take (i := 9) (oi := { dst := some 103, op := Op.binOp BinOp.neq 25 (Operand.tmp 102) (Operand.const (Value.int IntKind.i64 0)) 25, type := 4, pos := "law.go:48", after := #[{ on := 8, ground := Ground.data }, { on := 7, ground := Ground.guard }], guard := some (7, false) }) (v := ?_) rfl (by kernel_rfl) (by kernel_rfl) (by kernel_rfl) (fun _ _ _ h => h) (Or.inl ⟨by kernel_rfl, ?_⟩) (by assumption) ?_
  rotate_left 1
  · (intro wS hSw; (try dsimp only at hSw); go_simp; try with_reducible rfl)
  try simp only [Act.put, List.setIfInBounds_toArray, List.set_cons_zero, List.set_cons_succ]
  refine wpAnyH_take (i := 10) (oi := { dst := some 104, op := Op.pick (Operand.tmp 101) (Operand.const (Value.bool true)) (Operand.tmp 103), type := 4, pos := "law.go:48", after := #[{ on := 7, ground := Ground.data }, { on := 9, ground := Ground.data }], guard := none }) (v := ?_) rfl (by kernel_rfl) (by kernel_rfl) (by kernel_rfl) (fun _ _ _ h => h) (Or.inl ⟨by kernel_rfl, ?_⟩) (by assumption) ?_
  rotate_left 1
  · (intro wS hSw; (try dsimp only at hSw); go_simp; try with_reducible rfl)
  try simp only [Act.put, List.setIfInBounds_toArray, List.set_cons_zero, List.set_cons_succ]
  refine wpAnyH_take (i := 11) (oi := { dst := some 105, op := Op.move (Operand.tmp 104), type := 4, pos := "law.go:48", after := #[{ on := 10, ground := Ground.data }, { on := 7, ground := Ground.chain }], guard := none }) (v := ?_) rfl (by kernel_rfl) (by kernel_rfl) (by kernel_rfl) (fun _ _ _ h => h) (Or.inl ⟨by kernel_rfl, ?_⟩) (by assumption) ?_
  rotate_left 1
  · (intro wS hSw; (try dsimp only at hSw); go_simp; try with_reducible rfl)
  try simp only [Act.put, List.setIfInBounds_toArray, List.set_cons_zero, List.set_cons_succ]
  refine wpAnyH_take (i := 12) (oi := { dst := some 106, op := Op.move (Operand.tmp 3), type := 9, pos := "law.go:48", after := #[{ on := 11, ground := Ground.guard }], guard := some (11, false) }) (v := ?_) rfl (by kernel_rfl) (by kernel_rfl) (by kernel_rfl) (fun _ _ _ h => h) (Or.inl ⟨by kernel_rfl, ?_⟩) (by assumption) ?_
  rotate_left 1
  · (intro wS hSw; (try dsimp only at hSw); go_simp; try with_reducible rfl)
  try simp only [Act.put, List.setIfInBounds_toArray, List.set_cons_zero, List.set_cons_succ]
  refine wpAnyH_take (i := 13) (oi := { dst := some 107, op := Op.load 23 (Operand.tmp 1), type := 23, pos := "law.go:48", after := #[{ on := 11, ground := Ground.guard }], guard := some (11, false) }) rfl (by kernel_rfl) (by kernel_rfl) (by kernel_rfl) (fun _ _ _ h => h) (Or.inl ⟨by kernel_rfl, fun wS hSw => ex_load 23 (.tmp 1) rfl z 0 2 (ov k l) rfl Tryz.underlying23 rfl szObject hSw.d.lc.b.a.obj.at0⟩) (by assumption) ?_
  try simp only [Act.put, List.setIfInBounds_toArray, List.set_cons_zero, List.set_cons_succ]
  refine wpAnyH_ready (rs := [14]) (by kernel_rfl) (by simp) ?_
  refine AllReadyH.cons (o := { dst := some 108, op := Op.call { callee := Callee.value (Operand.func 13), args := #[Operand.tmp 107], argTypes := #[23] }, type := 9, pos := "law.go:48", after := #[{ on := 13, ground := Ground.data }, { on := 11, ground := Ground.chain }, { on := 11, ground := Ground.guard }], guard := some (11, false) }) rfl (fun K hK => ?_) AllReadyH.nil
  go_simp
  refine (HQF.out _).mono ?_
  rintro e w13 ⟨rfl, L13⟩
  have Sa14 := Sa4.step L13
  refine hK.out _ _ Sa14 (fun hHeld14 => ?_)
  clear hK K
  try simp only [Act.put, List.setIfInBounds_toArray, List.set_cons_zero, List.set_cons_succ]
  refine wpAnyH_take (i := 15) (oi := { dst := some 109, op := Op.binOp BinOp.neq 9 (Operand.tmp 106) (Operand.tmp 108) 9, type := 4, pos := "law.go:48", after := #[{ on := 12, ground := Ground.data }, { on := 14, ground := Ground.data }, { on := 11, ground := Ground.guard }], guard := some (11, false) }) (v := ?_) rfl (by kernel_rfl) (by kernel_rfl) (by kernel_rfl) (fun _ _ _ h => h) (Or.inl ⟨by kernel_rfl, ?_⟩) (by assumption) ?_
  rotate_left 1
  · (intro wS hSw; (try dsimp only at hSw); go_simp; try with_reducible rfl)
  try simp only [Act.put, List.setIfInBounds_toArray, List.set_cons_zero, List.set_cons_succ]
  refine wpAnyH_take (i := 16) (oi := { dst := some 110, op := Op.pick (Operand.tmp 105) (Operand.const (Value.bool true)) (Operand.tmp 109), type := 4, pos := "law.go:48", after := #[{ on := 11, ground := Ground.data }, { on := 15, ground := Ground.data }], guard := none }) (v := ?_) rfl (by kernel_rfl) (by kernel_rfl) (by kernel_rfl) (fun _ _ _ h => h) (Or.inl ⟨by kernel_rfl, ?_⟩) (by assumption) ?_
  rotate_left 1
  · (intro wS hSw; (try dsimp only at hSw); go_simp; try with_reducible rfl)
  try simp only [Act.put, List.setIfInBounds_toArray, List.set_cons_zero, List.set_cons_succ]
  refine wpAnyH_take (i := 17) (oi := { dst := some 111, op := Op.move (Operand.tmp 110), type := 4, pos := "law.go:48", after := #[{ on := 16, ground := Ground.data }, { on := 14, ground := Ground.chain }], guard := none }) (v := ?_) rfl (by kernel_rfl) (by kernel_rfl) (by kernel_rfl) (fun _ _ _ h => h) (Or.inl ⟨by kernel_rfl, ?_⟩) (by assumption) ?_
  rotate_left 1
  · (intro wS hSw; (try dsimp only at hSw); go_simp; try with_reducible rfl)
  try simp only [Act.put, List.setIfInBounds_toArray, List.set_cons_zero, List.set_cons_succ]
  refine wpAnyH_take (i := 18) (oi := { dst := some 112, op := Op.move (Operand.tmp 6), type := 4, pos := "law.go:48", after := #[{ on := 17, ground := Ground.guard }], guard := some (17, false) }) (v := ?_) rfl (by kernel_rfl) (by kernel_rfl) (by kernel_rfl) (fun _ _ _ h => h) (Or.inl ⟨by kernel_rfl, ?_⟩) (by assumption) ?_
  rotate_left 1
  · (intro wS hSw; (try dsimp only at hSw); go_simp; try with_reducible rfl)
  try simp only [Act.put, List.setIfInBounds_toArray, List.set_cons_zero, List.set_cons_succ]
  refine wpAnyH_take (i := 19) (oi := { dst := some 113, op := Op.unOp UnOp.not 4 (Operand.tmp 112), type := 4, pos := "law.go:48", after := #[{ on := 18, ground := Ground.data }, { on := 17, ground := Ground.guard }], guard := some (17, false) }) (v := ?_) rfl (by kernel_rfl) (by kernel_rfl) (by kernel_rfl) (fun _ _ _ h => h) (Or.inl ⟨by kernel_rfl, ?_⟩) (by assumption) ?_
  rotate_left 1
  · (intro wS hSw; (try dsimp only at hSw); go_simp; try with_reducible rfl)
  try simp only [Act.put, List.setIfInBounds_toArray, List.set_cons_zero, List.set_cons_succ]
  refine wpAnyH_take (i := 20) (oi := { dst := some 114, op := Op.pick (Operand.tmp 111) (Operand.const (Value.bool true)) (Operand.tmp 113), type := 4, pos := "law.go:48", after := #[{ on := 17, ground := Ground.data }, { on := 19, ground := Ground.data }], guard := none }) (v := ?_) rfl (by kernel_rfl) (by kernel_rfl) (by kernel_rfl) (fun _ _ _ h => h) (Or.inl ⟨by kernel_rfl, ?_⟩) (by assumption) ?_
  rotate_left 1
  · (intro wS hSw; (try dsimp only at hSw); go_simp; try with_reducible rfl)
  try simp only [Act.put, List.setIfInBounds_toArray, List.set_cons_zero, List.set_cons_succ]
  refine wpAnyH_take (i := 21) (oi := { dst := some 115, op := Op.move (Operand.tmp 114), type := 4, pos := "law.go:48", after := #[{ on := 20, ground := Ground.data }, { on := 17, ground := Ground.chain }], guard := none }) (v := ?_) rfl (by kernel_rfl) (by kernel_rfl) (by kernel_rfl) (fun _ _ _ h => h) (Or.inl ⟨by kernel_rfl, ?_⟩) (by assumption) ?_
  rotate_left 1
  · (intro wS hSw; (try dsimp only at hSw); go_simp; try with_reducible rfl)
  try simp only [Act.put, List.setIfInBounds_toArray, List.set_cons_zero, List.set_cons_succ]
  refine wpAnyH_take (i := 22) (oi := { dst := some 116, op := Op.load 29 (Operand.tmp 5), type := 29, pos := "law.go:48", after := #[{ on := 21, ground := Ground.guard }], guard := some (21, false) }) rfl (by kernel_rfl) (by kernel_rfl) (by kernel_rfl) (fun _ _ _ h => h) (Or.inl ⟨by kernel_rfl, fun wS hSw => ex_load 29 (.tmp 5) rfl ib 0 32 (bv D) rfl Tryz.underlying29 rfl sz30 hSw.d.lc.b.id.at0⟩) (by assumption) ?_
  try simp only [Act.put, List.setIfInBounds_toArray, List.set_cons_zero, List.set_cons_succ]
  refine wpAnyH_take (i := 23) (oi := { dst := some 117, op := Op.load 23 (Operand.tmp 1), type := 23, pos := "law.go:48", after := #[{ on := 21, ground := Ground.guard }], guard := some (21, false) }) rfl (by kernel_rfl) (by kernel_rfl) (by kernel_rfl) (fun _ _ _ h => h) (Or.inl ⟨by kernel_rfl, fun wS hSw => ex_load 23 (.tmp 1) rfl z 0 2 (ov k l) rfl Tryz.underlying23 rfl szObject hSw.d.lc.b.a.obj.at0⟩) (by assumption) ?_
  try simp only [Act.put, List.setIfInBounds_toArray, List.set_cons_zero, List.set_cons_succ]
  refine wpAnyH_ready (rs := [24]) (by kernel_rfl) (by simp) ?_
  refine AllReadyH.cons (o := { dst := some 118, op := Op.call { callee := Callee.value (Operand.func 14), args := #[Operand.tmp 117], argTypes := #[23] }, type := 29, pos := "law.go:48", after := #[{ on := 23, ground := Ground.data }, { on := 21, ground := Ground.chain }, { on := 21, ground := Ground.guard }], guard := some (21, false) }) rfl (fun K hK => ?_) AllReadyH.nil
  go_simp
  refine (HQI.out _).mono ?_
  rintro e w14 ⟨rfl, L14⟩
  have Sa24 := Sa14.step L14
  refine hK.out _ _ Sa24 (fun hHeld24 => ?_)
  clear hK K
  try simp only [Act.put, List.setIfInBounds_toArray, List.set_cons_zero, List.set_cons_succ]
  refine wpAnyH_take (i := 25) (oi := { dst := some 119, op := Op.binOp BinOp.neq 29 (Operand.tmp 116) (Operand.tmp 118) 29, type := 4, pos := "law.go:48", after := #[{ on := 22, ground := Ground.data }, { on := 24, ground := Ground.data }, { on := 21, ground := Ground.guard }], guard := some (21, false) }) (v := ?_) rfl (by kernel_rfl) (by kernel_rfl) (by kernel_rfl) (fun _ _ _ h => h) (Or.inl ⟨by kernel_rfl, ?_⟩) (by assumption) ?_
  rotate_left 1
  · (intro wS hSw; (try dsimp only at hSw); go_simp; try with_reducible rfl)
  try simp only [Act.put, List.setIfInBounds_toArray, List.set_cons_zero, List.set_cons_succ]
  refine wpAnyH_take (i := 26) (oi := { dst := some 120, op := Op.pick (Operand.tmp 115) (Operand.const (Value.bool true)) (Operand.tmp 119), type := 4, pos := "law.go:48", after := #[{ on := 21, ground := Ground.data }, { on := 25, ground := Ground.data }], guard := none }) (v := ?_) rfl (by kernel_rfl) (by kernel_rfl) (by kernel_rfl) (fun _ _ _ h => h) (Or.inl ⟨by kernel_rfl, ?_⟩) (by assumption) ?_
  rotate_left 1
  · (intro wS hSw; (try dsimp only at hSw); go_simp; try with_reducible rfl)
  try simp only [Act.put, List.setIfInBounds_toArray, List.set_cons_zero, List.set_cons_succ]
  refine wpAnyH_take (i := 27) (oi := { dst := some 121, op := Op.move (Operand.tmp 120), type := 4, pos := "law.go:48", after := #[{ on := 26, ground := Ground.data }, { on := 24, ground := Ground.chain }], guard := none }) (v := ?_) rfl (by kernel_rfl) (by kernel_rfl) (by kernel_rfl) (fun _ _ _ h => h) (Or.inl ⟨by kernel_rfl, ?_⟩) (by assumption) ?_
  rotate_left 1
  · (intro wS hSw; (try dsimp only at hSw); go_simp; try with_reducible rfl)
  try simp only [Act.put, List.setIfInBounds_toArray, List.set_cons_zero, List.set_cons_succ]
  refine wpAnyH_take (i := 28) (oi := { dst := some 122, op := Op.move (Operand.tmp 11), type := 40, pos := "law.go:48", after := #[{ on := 27, ground := Ground.guard }], guard := some (27, false) }) (v := ?_) rfl (by kernel_rfl) (by kernel_rfl) (by kernel_rfl) (fun _ _ _ h => h) (Or.inl ⟨by kernel_rfl, ?_⟩) (by assumption) ?_
  rotate_left 1
  · (intro wS hSw; (try dsimp only at hSw); go_simp; try with_reducible rfl)
  try simp only [Act.put, List.setIfInBounds_toArray, List.set_cons_zero, List.set_cons_succ]
  refine wpAnyH_take (i := 29) (oi := { dst := some 123, op := Op.load 23 (Operand.tmp 1), type := 23, pos := "law.go:48", after := #[{ on := 27, ground := Ground.guard }], guard := some (27, false) }) rfl (by kernel_rfl) (by kernel_rfl) (by kernel_rfl) (fun _ _ _ h => h) (Or.inl ⟨by kernel_rfl, fun wS hSw => ex_load 23 (.tmp 1) rfl z 0 2 (ov k l) rfl Tryz.underlying23 rfl szObject hSw.d.lc.b.a.obj.at0⟩) (by assumption) ?_
  try simp only [Act.put, List.setIfInBounds_toArray, List.set_cons_zero, List.set_cons_succ]
  refine wpAnyH_ready (rs := [30]) (by kernel_rfl) (by simp) ?_
  refine AllReadyH.cons (o := { dst := some 124, op := Op.call { callee := Callee.value (Operand.func 16), args := #[Operand.tmp 123], argTypes := #[23] }, type := 40, pos := "law.go:48", after := #[{ on := 29, ground := Ground.data }, { on := 27, ground := Ground.chain }, { on := 27, ground := Ground.guard }], guard := some (27, false) }) rfl (fun K hK => ?_) AllReadyH.nil
  go_simp
  refine (HQC.out _).mono ?_
  rintro e w15 ⟨x2, H2, m2, rfl, R15, K15, L15⟩
  have Sa30 := Sa24.step L15
  refine hK.out _ _ Sa30 (fun hHeld30 => ?_)
  clear hK K
  try simp only [Act.put, List.setIfInBounds_toArray, List.set_cons_zero, List.set_cons_succ]
  have HS : Hid (Calls Tryz.prog 15 #[x, x2] w15 fun e w' => e = .returned (.bool true) ∧ Below w15.heap.size w15 w') := by
    have h := samekids_any H H2 m m2 x x2 w15 Sa30.kids R15 (by have := kids_le HO.out KK.out; omega) (by have := kids_le HO.out K15; omega)
    rw [decide_eq_true (kids_one HO.out KK.out K15)] at h
    exact h
  refine wpAnyH_ready (rs := [31]) (by kernel_rfl) (by simp) ?_
  refine AllReadyH.cons (o := { dst := some 125, op := Op.call { callee := Callee.value (Operand.func 15), args := #[Operand.tmp 122, Operand.tmp 124], argTypes := #[40, 40] }, type := 4, pos := "law.go:48", after := #[{ on := 28, ground := Ground.data }, { on := 30, ground := Ground.data }, { on := 30, ground := Ground.chain }, { on := 27, ground := Ground.guard }], guard := some (27, false) }) rfl (fun K hK => ?_) AllReadyH.nil
  go_simp
  refine (HS.out).mono ?_
  rintro e w16 ⟨rfl, L16⟩
  have Sa31 := Sa30.step L16
  refine hK.out _ _ Sa31 (fun hHeld31 => ?_)
  clear hK K
  try simp only [Act.put, List.setIfInBounds_toArray, List.set_cons_zero, List.set_cons_succ]
  refine wpAnyH_take (i := 32) (oi := { dst := some 126, op := Op.unOp UnOp.not 4 (Operand.tmp 125), type := 4, pos := "law.go:48", after := #[{ on := 31, ground := Ground.data }, { on := 27, ground := Ground.guard }], guard := some (27, false) }) (v := ?_) rfl (by kernel_rfl) (by kernel_rfl) (by kernel_rfl) (fun _ _ _ h => h) (Or.inl ⟨by kernel_rfl, ?_⟩) (by assumption) ?_
  rotate_left 1
  · (intro wS hSw; (try dsimp only at hSw); go_simp; try with_reducible rfl)
  try simp only [Act.put, List.setIfInBounds_toArray, List.set_cons_zero, List.set_cons_succ]
  refine wpAnyH_take (i := 33) (oi := { dst := some 127, op := Op.pick (Operand.tmp 121) (Operand.const (Value.bool true)) (Operand.tmp 126), type := 4, pos := "law.go:48", after := #[{ on := 27, ground := Ground.data }, { on := 32, ground := Ground.data }], guard := none }) (v := ?_) rfl (by kernel_rfl) (by kernel_rfl) (by kernel_rfl) (fun _ _ _ h => h) (Or.inl ⟨by kernel_rfl, ?_⟩) (by assumption) ?_
  rotate_left 1
  · (intro wS hSw; (try dsimp only at hSw); go_simp; try with_reducible rfl)
  try simp only [Act.put, List.setIfInBounds_toArray, List.set_cons_zero, List.set_cons_succ]
  refine wpAnyH_done (by kernel_rfl) ?_ _
  refine NoPanic.normal ?_
  have T16 := Lib.hid Sa31
  clear S0 Sa0 Sa4 Sa14 Sa24 Sa30 Sa31 L11 L12 L13 L14 L15 L16 R15 K15 HS KK HQF HQI HQC HR HA NQ
  clear hHeld hHeld0 hHeld4 hHeld14 hHeld24 hHeld30 hHeld31
  have hk := obj_kind HO.out
  rcases hk with rfl | rfl | rfl
  · have e1 : g = 1 := HG.out
    have e2 : kk = 1 := HK.out
    subst e1 e2
    have e3 := EE.out.2 (by decide)
    subst e3
    have e4 := CC.out.2 (by decide)
    subst e4
    obtain ⟨ad, cap, rfl, -⟩ := row_addr T16.out.d.lc.ents
    obtain ⟨c0, c1⟩ := T16.out.d.lc.b.a.cells
    clear EE CC HG HK HO
    go_upto_region 23 with fail
    clear c0 c1
    refine wp_region_lit ?_
    refine wpList_valS (v := ?_) (by kernel_rfl) ?_ ?_
    rotate_left 1
    · (go_simp; try with_reducible rfl)
    try simp only [Act.put, List.setIfInBounds_toArray, List.set_cons_zero, List.set_cons_succ]
    refine wpList_valS (v := ?_) (by kernel_rfl) ?_ ?_
    rotate_left 1
    · (go_simp; try with_reducible rfl)
    try simp only [Act.put, List.setIfInBounds_toArray, List.set_cons_zero, List.set_cons_succ]
    refine wpList_valS (v := ?_) (by kernel_rfl) ?_ ?_
    rotate_left 1
    · (go_simp; try with_reducible rfl)
    try simp only [Act.put, List.setIfInBounds_toArray, List.set_cons_zero, List.set_cons_succ]
    refine wpList_valG (by kernel_rfl) (ex_load 37 (.tmp 9) rfl cb 0 34 (cv zeroC.tree u zeroC.text) rfl Tryz.underlying37 rfl szCommit T16.out.d.com.at0) ?_
    try simp only [Act.put, List.setIfInBounds_toArray, List.set_cons_zero, List.set_cons_succ]
    refine wpList_valG (by kernel_rfl) (ex_build0 rfl (bd_zcom _)) ?_
    try simp only [Act.put, List.setIfInBounds_toArray, List.set_cons_zero, List.set_cons_succ]
    refine wpList_callG (by kernel_rfl) fun K hK => ?_
    go_simp
    refine (samezero u _ T16.out.d.pars).mono ?_
    rintro e w17 ⟨rfl, L17⟩
    refine hK _ _ ?_
    clear hK K
    try simp only [Act.put, List.setIfInBounds_toArray, List.set_cons_zero, List.set_cons_succ]
    have T17 := Lib.hid (T16.out.step L17)
    clear L17 T16
    refine wpList_valS (v := ?_) (by kernel_rfl) ?_ ?_
    rotate_left 1
    · (go_simp; try with_reducible rfl)
    try simp only [Act.put, List.setIfInBounds_toArray, List.set_cons_zero, List.set_cons_succ]
    refine wpList_valS (v := ?_) (by kernel_rfl) ?_ ?_
    rotate_left 1
    · (go_simp; try with_reducible rfl)
    try simp only [Act.put, List.setIfInBounds_toArray, List.set_cons_zero, List.set_cons_succ]
    refine wpList_nil ?_
    go_wp2
    go_ret
    exact ⟨rfl, T17.out.d.lc.b.a.keep⟩
  · have e1 : g = 0 := HG.out
    have e2 : kk = 1 := HK.out
    subst e1 e2
    have IT := EE.out.1 rfl
    have e4 := CC.out.2 (by decide)
    subst e4
    have HQE : Hid (∀ V, Calls Tryz.prog 17 #[.string (bs l)] V fun e w' => ∃ v2 es2, e = .returned (.tuple #[v2, .bool true]) ∧ Row w' v2 34 (ec es2) n ∧ (∀ i, i < n → eqE (es i) (es2 i)) ∧ Below V.heap.size V w') := fun V => by
      have h := qentries_any l V (by have := HO.out.1; omega)
      have it : isTree l := ⟨es, n, IT⟩
      rw [decide_eq_true it] at h
      exact h.mono fun e w' ⟨es2, n2, v2, a, b, c, _, d⟩ => by
        obtain ⟨q, r⟩ := tree_one IT (c ⟨es, n, IT⟩)
        subst q
        exact ⟨v2, es2, a, b, r, d⟩
    have N32 : Hid (n ≤ 32) := IT.1.1
    obtain ⟨c0, c1⟩ := T16.out.d.lc.b.a.cells
    clear EE CC HG HK HO IT
    go_wp2_with fail
    refine (HQE.out _).mono ?_
    rintro e w17 ⟨v2, es2, rfl, R17, E17, L17⟩
    have T17 := Lib.hid (T16.out.step L17)
    have HSE : Hid (Calls Tryz.prog 18 #[v, v2] w17 fun e w' => e = .returned (.bool true) ∧ Below w17.heap.size w17 w') := by
      have h := sameents_any es es2 n n v v2 w17 T17.out.d.lc.ents R17 (by have := N32.out; omega) (by have := N32.out; omega)
      rw [decide_eq_true (And.intro rfl E17)] at h
      exact h
    clear L17 T16 c0 c1 R17 E17 HQE N32
    go_wp2_with fail
    refine HSE.out.mono ?_
    rintro e w18 ⟨rfl, L18⟩
    have T18 := Lib.hid (T17.out.step L18)
    clear L18 T17 HSE
    obtain ⟨c0, c1⟩ := T18.out.d.lc.b.a.cells
    go_upto_region 23 with fail
    clear c0 c1
    refine wp_region_lit ?_
    refine wpList_valS (v := ?_) (by kernel_rfl) ?_ ?_
    rotate_left 1
    · (go_simp; try with_reducible rfl)
    try simp only [Act.put, List.setIfInBounds_toArray, List.set_cons_zero, List.set_cons_succ]
    refine wpList_valS (v := ?_) (by kernel_rfl) ?_ ?_
    rotate_left 1
    · (go_simp; try with_reducible rfl)
    try simp only [Act.put, List.setIfInBounds_toArray, List.set_cons_zero, List.set_cons_succ]
    refine wpList_valS (v := ?_) (by kernel_rfl) ?_ ?_
    rotate_left 1
    · (go_simp; try with_reducible rfl)
    try simp only [Act.put, List.setIfInBounds_toArray, List.set_cons_zero, List.set_cons_succ]
    refine wpList_valG (by kernel_rfl) (ex_load 37 (.tmp 9) rfl cb 0 34 (cv zeroC.tree u zeroC.text) rfl Tryz.underlying37 rfl szCommit T18.out.d.com.at0) ?_
    try simp only [Act.put, List.setIfInBounds_toArray, List.set_cons_zero, List.set_cons_succ]
    refine wpList_valG (by kernel_rfl) (ex_build0 rfl (bd_zcom _)) ?_
    try simp only [Act.put, List.setIfInBounds_toArray, List.set_cons_zero, List.set_cons_succ]
    refine wpList_callG (by kernel_rfl) fun K hK => ?_
    go_simp
    refine (samezero u _ T18.out.d.pars).mono ?_
    rintro e w19 ⟨rfl, L19⟩
    refine hK _ _ ?_
    clear hK K
    try simp only [Act.put, List.setIfInBounds_toArray, List.set_cons_zero, List.set_cons_succ]
    have T19 := Lib.hid (T18.out.step L19)
    clear L19 T18
    refine wpList_valS (v := ?_) (by kernel_rfl) ?_ ?_
    rotate_left 1
    · (go_simp; try with_reducible rfl)
    try simp only [Act.put, List.setIfInBounds_toArray, List.set_cons_zero, List.set_cons_succ]
    refine wpList_valS (v := ?_) (by kernel_rfl) ?_ ?_
    rotate_left 1
    · (go_simp; try with_reducible rfl)
    try simp only [Act.put, List.setIfInBounds_toArray, List.set_cons_zero, List.set_cons_succ]
    refine wpList_nil ?_
    go_wp2
    go_ret
    exact ⟨rfl, T19.out.d.lc.b.a.keep⟩
  · have e1 : g = 1 := HG.out
    have e2 : kk = 0 := HK.out
    subst e1 e2
    have e3 := EE.out.2 (by decide)
    subst e3
    have IC := CC.out.1 rfl
    obtain ⟨ad, cap, rfl, -⟩ := row_addr T16.out.d.lc.ents
    have HQM : Hid (∀ V, Calls Tryz.prog 19 #[.string (bs l)] V fun e w' => ∃ (c2 : Com) (u2 : Value), e = .returned (.tuple #[.agg (arr 34 (cv c2.tree u2 c2.text)), .bool true]) ∧ Row w' u2 32 (pc c2.par) c2.n ∧ sameC c c2 ∧ Below V.heap.size V w') := fun V => by
      have h := qcommit_any l V (by have := HO.out.1; omega)
      have ic : isCom l := ⟨c, IC⟩
      rw [decide_eq_true ic] at h
      exact h.mono fun e w' ⟨c2, u2, a, b, q, _, d⟩ => ⟨c2, u2, a, b, com_one IC (q ⟨c, IC⟩), d⟩
    have N4 : Hid (c.n ≤ 4) := IC.1.1
    obtain ⟨c0, c1⟩ := T16.out.d.lc.b.a.cells
    clear EE CC HG HK HO IC
    go_wp2_with fail
    refine (HQM.out _).mono ?_
    rintro e w17 ⟨c2, u2, rfl, R17, E17, L17⟩
    have T17 := Lib.hid (T16.out.step L17)
    have o2 := Lib.hid (qrow_one R17)
    have E2 := Lib.hid E17
    clear L17 T16 c0 c1 HQM E17
    go_upto_region 22 with (refine wpList_store_blk rfl 37 (.tmp 14) (.tmp 159) rfl w17.heap.size 34 (cv c2.tree u2 c2.text) zc rfl rfl 37 (Blk.newAt _ (heap_alloc_new _ _) rfl) szCommit (fun i _ => cv_one _ _ o2.out _ i) ?_)
    rw [World.setRow_alloc_new]
    have A18 := (Below.refl w17.heap.size w17).alloc (Nat.le_refl _) (.cells (arr 34 (cv c2.tree u2 c2.text)) 37)
    have T18 := Lib.hid (T17.out.step A18)
    have B18 : Hid (Blk (w17.alloc (.cells (arr 34 (cv c2.tree u2 c2.text)) 37)) w17.heap.size 37 34 (cv c2.tree u2 c2.text)) := Blk.newAt _ (heap_alloc_new _ _) rfl
    have R18 := Lib.hid (R17.below A18)
    clear A18 T17 R17 o2
    generalize w17.alloc (.cells (arr 34 (cv c2.tree u2 c2.text)) 37) = w18 at T18 B18 R18 ⊢
    generalize w17.heap.size = cb2 at B18 ⊢
    have HSC : Hid (Calls Tryz.prog 12 #[.agg (arr 34 (cv c.tree u c.text)), .agg (arr 34 (cv c2.tree u2 c2.text))] w18 fun e w' => e = .returned (.bool true) ∧ Below w18.heap.size w18 w') := by
      have h := samecom_any c c2 u u2 w18 T18.out.d.pars R18.out (by have := N4.out; omega) (by have := N4.out; have := E2.out.2.2.1; omega)
      rw [decide_eq_true E2.out] at h
      exact h
    clear R18 N4 E2
    refine wp_region_lit ?_
    refine wpList_valS (v := ?_) (by kernel_rfl) ?_ ?_
    rotate_left 1
    · (go_simp; try with_reducible rfl)
    try simp only [Act.put, List.setIfInBounds_toArray, List.set_cons_zero, List.set_cons_succ]
    refine wpList_valS (v := ?_) (by kernel_rfl) ?_ ?_
    rotate_left 1
    · (go_simp; try with_reducible rfl)
    try simp only [Act.put, List.setIfInBounds_toArray, List.set_cons_zero, List.set_cons_succ]
    refine wpList_valS (v := ?_) (by kernel_rfl) ?_ ?_
    rotate_left 1
    · (go_simp; try with_reducible rfl)
    try simp only [Act.put, List.setIfInBounds_toArray, List.set_cons_zero, List.set_cons_succ]
    refine wpList_valG (by kernel_rfl) (ex_load 37 (.tmp 9) rfl cb 0 34 (cv c.tree u c.text) rfl Tryz.underlying37 rfl szCommit T18.out.d.com.at0) ?_
    try simp only [Act.put, List.setIfInBounds_toArray, List.set_cons_zero, List.set_cons_succ]
    refine wpList_valG (by kernel_rfl) (ex_load 37 (.tmp 14) rfl cb2 0 34 (cv c2.tree u2 c2.text) rfl Tryz.underlying37 rfl szCommit B18.out.at0) ?_
    try simp only [Act.put, List.setIfInBounds_toArray, List.set_cons_zero, List.set_cons_succ]
    refine wpList_callG (by kernel_rfl) fun K hK => ?_
    go_simp
    refine (HSC.out).mono ?_
    rintro e w19 ⟨rfl, L19⟩
    refine hK _ _ ?_
    clear hK K
    try simp only [Act.put, List.setIfInBounds_toArray, List.set_cons_zero, List.set_cons_succ]
    have T19 := Lib.hid (T18.out.step L19)
    clear L19 T18 B18 HSC
    refine wpList_valS (v := ?_) (by kernel_rfl) ?_ ?_
    rotate_left 1
    · (go_simp; try with_reducible rfl)
    try simp only [Act.put, List.setIfInBounds_toArray, List.set_cons_zero, List.set_cons_succ]
    refine wpList_valS (v := ?_) (by kernel_rfl) ?_ ?_
    rotate_left 1
    · (go_simp; try with_reducible rfl)
    try simp only [Act.put, List.setIfInBounds_toArray, List.set_cons_zero, List.set_cons_succ]
    refine wpList_nil ?_
    go_wp2
    go_ret
    exact ⟨rfl, T19.out.d.lc.b.a.keep⟩
theorem objectrights_any (k : Int) (l : List UInt8) (W : World) (hT : Tie W) :
    Calls Tryz.prog 3 #[.agg #[.int .i64 k, .string (bs l)]] W fun e w' => e = .returned (.bool true) ∧ Below W.heap.size W w' := by
  by_cases h : 6000 < l.length
  · exact rights_great k l W h
  · by_cases ho : objOk k l
    · exact rights_ok k l W hT (by omega) ho
    · exact rights_not k l W hT (by omega) ho
end Go.Proofs.YtlbclfponongbaaGreatDoor
