import Derived.Test.YtlbclfponongbaaGreatDoorY1m
import Derived.Test.YtlbclfponongbaaGreatDoorOzm
/- ObjectRights: where the object is not right. -/
namespace Go.Proofs.YtlbclfponongbaaGreatDoor
open Go.RowKit Classical
structure LA (w0 : World) (z : Nat) (k : Int) (l : List UInt8) (w : World) : Prop where
  keep : Below w0.heap.size w0 w
  obj : Blk w z 23 2 (ov k l)
theorem LA.step {w0 : World} {z : Nat} {k : Int} {l : List UInt8} {w w' : World} (h : LA w0 z k l w) (hb : Below w.heap.size w w') : LA w0 z k l w' :=
  ⟨h.keep.trans (hb.mono h.keep.size), h.obj.below hb h.obj.lt⟩
theorem LA.cells {w0 : World} {z : Nat} {k : Int} {l : List UInt8} {w : World} (h : LA w0 z k l w) : w.cell? ⟨z, 0, none⟩ = some (.int .i64 k) ∧ w.cell? ⟨z, 1, none⟩ = some (.string (bs l)) :=
  ⟨h.obj.cell 0 (by omega), h.obj.cell 1 (by omega)⟩
structure LB (w0 : World) (z : Nat) (k : Int) (l : List UInt8) (ib : Nat) (I : Nat → UInt8) (w : World) : Prop where
  a : LA w0 z k l w
  id : Blk w ib 29 32 (bv I)
theorem LB.step {w0 : World} {z : Nat} {k : Int} {l : List UInt8} {ib : Nat} {I : Nat → UInt8} {w w' : World} (h : LB w0 z k l ib I w) (hb : Below w.heap.size w w') : LB w0 z k l ib I w' :=
  ⟨h.a.step hb, h.id.below hb h.id.lt⟩
structure LC (w0 : World) (z : Nat) (k : Int) (l : List UInt8) (ib : Nat) (I : Nat → UInt8) (v : Value) (es : Nat → Ent) (n : Nat) (w : World) : Prop where
  b : LB w0 z k l ib I w
  ents : Row w v 34 (ec es) n
theorem LC.step {w0 : World} {z : Nat} {k : Int} {l : List UInt8} {ib : Nat} {I : Nat → UInt8} {v : Value} {es : Nat → Ent} {n : Nat} {w w' : World} (h : LC w0 z k l ib I v es n w) (hb : Below w.heap.size w w') : LC w0 z k l ib I v es n w' :=
  ⟨h.b.step hb, h.ents.below hb⟩
structure LD (w0 : World) (z : Nat) (k : Int) (l : List UInt8) (ib : Nat) (I : Nat → UInt8) (v : Value) (es : Nat → Ent) (n cb : Nat) (c : Com) (u : Value) (w : World) : Prop where
  lc : LC w0 z k l ib I v es n w
  com : Blk w cb 37 34 (cv c.tree u c.text)
  pars : Row w u 32 (pc c.par) c.n
theorem LD.step {w0 : World} {z : Nat} {k : Int} {l : List UInt8} {ib : Nat} {I : Nat → UInt8} {v : Value} {es : Nat → Ent} {n cb : Nat} {c : Com} {u : Value} {w w' : World} (h : LD w0 z k l ib I v es n cb c u w) (hb : Below w.heap.size w w') : LD w0 z k l ib I v es n cb c u w' :=
  ⟨h.lc.step hb, h.com.below hb h.com.lt, h.pars.below hb⟩
structure LE (w0 : World) (z : Nat) (k : Int) (l : List UInt8) (ib : Nat) (I : Nat → UInt8) (v : Value) (es : Nat → Ent) (n cb : Nat) (c : Com) (u : Value) (x : Value) (H : Nat → (Nat → UInt8) × Int) (m : Nat) (w : World) : Prop where
  d : LD w0 z k l ib I v es n cb c u w
  kids : Row w x 33 (hc H) m
theorem LE.step {w0 : World} {z : Nat} {k : Int} {l : List UInt8} {ib : Nat} {I : Nat → UInt8} {v : Value} {es : Nat → Ent} {n cb : Nat} {c : Com} {u : Value} {x : Value} {H : Nat → (Nat → UInt8) × Int} {m : Nat} {w w' : World} (h : LE w0 z k l ib I v es n cb c u x H m w) (hb : Below w.heap.size w w') : LE w0 z k l ib I v es n cb c u x H m w' :=
  ⟨h.d.step hb, h.kids.below hb⟩
theorem eqlId_same (f : Nat → UInt8) (w : World) : (binOp .eql 29 (.agg (arr 32 (bv f))) (.agg (arr 32 (bv f)))).run Tryz.prog w = .ok (.bool true) w := by
  have h : same32 f f := fun _ _ => rfl
  rw [eqlId, decide_eq_true h]
theorem neqId_same (f : Nat → UInt8) (w : World) : (binOp .neq 29 (.agg (arr 32 (bv f))) (.agg (arr 32 (bv f)))).run Tryz.prog w = .ok (.bool false) w := by
  have h : same32 f f := fun _ _ => rfl
  rw [neqId, decide_eq_true h]
  rfl
theorem sameC_zero : sameC zeroC zeroC := ⟨fun _ _ => rfl, rfl, rfl, fun _ _ _ _ => rfl⟩
theorem kids_le {k : Int} {l : List UInt8} {H : Nat → (Nat → UInt8) × Int} {m : Nat} (ho : objOk k l) (h : Kids k l H m) : m ≤ 100 := by
  obtain ⟨h1, h2, h3⟩ := h.2 ho
  rcases obj_kind ho with rfl | rfl | rfl
  · rw [h1 rfl]; omega
  · obtain ⟨es, a, t, rfl, e1⟩ := h2 rfl
    have := t.1.1
    omega
  · obtain ⟨c, t, rfl, e0, e1⟩ := h3 rfl
    have := t.1.1
    omega
set_option maxHeartbeats 1000000 in
set_option maxRecDepth 100000 in
theorem rights_great (k : Int) (l : List UInt8) (W : World) (h : 6000 < l.length) :
    Calls Tryz.prog 3 #[.agg #[.int .i64 k, .string (bs l)]] W fun e w' => e = .returned (.bool true) ∧ Below W.heap.size W w' := by
  have HA := Lib.hid (fun W => alive_any W)
  have t1 : (6000 : Int) < ((bs l).size : Int) := by rw [bs_size]; omega
  have T0 : Hid (LA W W.heap.size k l (W.alloc (.cells #[.int .i64 k, .string (bs l)] 23))) := ⟨(Below.refl _ _).alloc (Nat.le_refl _) _, Blk.newAt _ (heap_alloc_new _ _) rfl⟩
  clear h
  go_enter Tryz.func3, Tryz.ntmps3
  go_upto_region 1 with fail
  change Code.wp _ _ _ _ (W.alloc (.cells #[.int .i64 k, .string (bs l)] 23))
  generalize W.alloc (.cells #[.int .i64 k, .string (bs l)] 23) = w1 at T0 ⊢
  generalize W.heap.size = z at T0 ⊢
  go_wp2_with fail
  refine (HA.out _).mono ?_
  rintro e w2 ⟨rfl, L2⟩
  have T2 := Lib.hid (T0.out.step L2)
  clear L2 T0
  obtain ⟨c0, c1⟩ := T2.out.cells
  go_wp2_with fail
  refine (HA.out _).mono ?_
  rintro e w3 ⟨rfl, L3⟩
  have T3 := Lib.hid (T2.out.step L3)
  clear L3
  go_wp2
  go_ret
  exact ⟨rfl, T3.out.keep⟩
set_option maxHeartbeats 4000000 in
set_option maxRecDepth 100000 in
theorem rights_not (k : Int) (l : List UInt8) (W : World) (hT : Tie W) (hl : l.length ≤ 6000) (ho : ¬ objOk k l) :
    Calls Tryz.prog 3 #[.agg #[.int .i64 k, .string (bs l)]] W fun e w' => e = .returned (.bool true) ∧ Below W.heap.size W w' := by
  have HA := Lib.hid (fun W => alive_any W)
  have TI := Lib.hid hT
  have t1 : ((bs l).size : Int) ≤ 6000 := by rw [bs_size]; omega
  have T0 : Hid (LA W W.heap.size k l (W.alloc (.cells #[.int .i64 k, .string (bs l)] 23))) := ⟨(Below.refl _ _).alloc (Nat.le_refl _) _, Blk.newAt _ (heap_alloc_new _ _) rfl⟩
  have HFr : Hid (∀ V, Calls Tryz.prog 5 #[.agg #[.int .i64 k, .string (bs l)]] V fun e w' => e = .returned (.tuple #[.string ⟨#[]⟩, .int .i64 1]) ∧ Below V.heap.size V w') := fun V => (frame_any k l V).mono fun e w' h => ⟨h.2.1 ho, h.2.2⟩
  have HId : Hid (∀ V, Tie V → Calls Tryz.prog 6 #[.agg #[.int .i64 k, .string (bs l)]] V fun e w' => e = .returned (.tuple #[.agg (arr 32 (bv fun _ => 0)), .bool false]) ∧ Below V.heap.size V w') := fun V t => (oid_any k l V t).mono fun e w' h => ⟨h.2.1 ho, h.2.2⟩
  have HEn : Hid (∀ V, Calls Tryz.prog 7 #[.agg #[.int .i64 k, .string (bs l)]] V fun e w' => ∃ v es n, e = .returned (.tuple #[v, .int .i64 1]) ∧ Row w' v 34 (ec es) n ∧ (v = .slice none 0 0) ∧ Below V.heap.size V w') := fun V => (entries_any k l V).mono fun e w' h => ⟨_, fun _ => ⟨[], 0, fun _ => 0⟩, 0, h.2.1 (fun g => ho g.1), Or.inl ⟨none, 0, rfl, rfl⟩, rfl, h.2.2⟩
  have HCo : Hid (∀ V, Calls Tryz.prog 8 #[.agg #[.int .i64 k, .string (bs l)]] V fun e w' => ∃ (c : Com) (u : Value), e = .returned (.tuple #[.agg (arr 34 (cv c.tree u c.text)), .int .i64 1]) ∧ Row w' u 32 (pc c.par) c.n ∧ (c = zeroC ∧ u = .slice none 0 0) ∧ Below V.heap.size V w') := fun V => (commits_any k l V).mono fun e w' h => ⟨zeroC, .slice none 0 0, h.2.1 (fun g => ho g.1), Or.inl ⟨none, 0, rfl, rfl⟩, ⟨rfl, rfl⟩, h.2.2⟩
  have HCh : Hid (∀ V, Calls Tryz.prog 9 #[.agg #[.int .i64 k, .string (bs l)]] V fun e w' => ∃ v H m, e = .returned v ∧ Row w' v 33 (hc H) m ∧ m = 0 ∧ Below V.heap.size V w') := fun V => (children_any k l V).mono fun e w' ⟨v, H, m, h, r, q, b⟩ => ⟨v, H, m, h, r, q.1 ho, b⟩
  have HQ : Hid (∀ V, Calls Tryz.prog 10 #[.agg #[.int .i64 k, .string (bs l)]] V fun e w' => e = .returned (.bool false) ∧ Below V.heap.size V w') := fun V => by
    have h := qright_any k l V
    rw [decide_eq_false ho] at h
    exact h
  have HR : Hid (∀ V, Calls Tryz.prog 11 #[.agg #[.int .i64 k, .string (bs l)]] V fun e w' => e = .returned (.bool false) ∧ Below V.heap.size V w') := fun V => by
    have h := right_any k l V
    rw [decide_eq_false ho] at h
    exact h
  have HSC : Hid (∀ V, Calls Tryz.prog 12 #[.agg (arr 34 (cv zeroC.tree (.slice none 0 0) zeroC.text)), .agg (arr 34 (cv zeroC.tree (.slice none 0 0) zeroC.text))] V fun e w' => e = .returned (.bool true) ∧ Below V.heap.size V w') := fun V => by
    have h := samecom_any zeroC zeroC (.slice none 0 0) (.slice none 0 0) V (Or.inl ⟨none, 0, rfl, rfl⟩) (Or.inl ⟨none, 0, rfl, rfl⟩) (by decide) (by decide)
    rw [decide_eq_true sameC_zero] at h
    exact h
  have EQ := fun W => eqlId_same (fun _ => 0) W
  clear ho
  clear hT hl
  go_enter Tryz.func3, Tryz.ntmps3
  go_upto_region 1 with fail
  change Code.wp _ _ _ _ (W.alloc (.cells #[.int .i64 k, .string (bs l)] 23))
  generalize W.alloc (.cells #[.int .i64 k, .string (bs l)] 23) = w1 at T0 ⊢
  generalize W.heap.size = z at T0 ⊢
  go_wp2_with fail
  refine (HA.out _).mono ?_
  rintro e w2 ⟨rfl, L2⟩
  have T2 := Lib.hid (T0.out.step L2)
  clear L2 T0
  obtain ⟨c0, c1⟩ := T2.out.cells
  go_upto_region 5 with fail
  clear t1
  go_wp2_with fail
  refine (HFr.out _).mono ?_
  rintro e w3 ⟨rfl, L3⟩
  have T3 := Lib.hid (T2.out.step L3)
  clear L3 T2 c0 c1 HFr
  obtain ⟨c0, c1⟩ := T3.out.cells
  go_upto_region 6 with fail
  go_wp2_with fail
  refine (HId.out _ (TI.out.below T3.out.keep)).mono ?_
  rintro e w4 ⟨rfl, L4⟩
  have T4 := Lib.hid (T3.out.step L4)
  clear L4 T3 c0 c1 HId
  go_upto_region 7 with (refine wpList_store_blk rfl 29 (.tmp 5) (.tmp 31) rfl w4.heap.size 32 (bv fun _ => 0) (bv fun _ => 0) rfl rfl 29 (Blk.newAt _ (heap_alloc_new _ _) rfl) sz30 (fun _ _ => rfl) ?_)
  rw [World.setRow_alloc_new]
  have T5 : Hid (LB W z k l w4.heap.size (fun _ => 0) (w4.alloc (.cells (arr 32 (bv fun _ => 0)) 29))) := ⟨T4.out.step ((Below.refl _ _).alloc (Nat.le_refl _) _), Blk.newAt _ (heap_alloc_new _ _) rfl⟩
  clear T4
  generalize w4.alloc (.cells (arr 32 (bv fun _ => 0)) 29) = w5 at T5 ⊢
  generalize w4.heap.size = ib at T5 ⊢
  obtain ⟨c0, c1⟩ := T5.out.a.cells
  go_wp2_with fail
  refine (HEn.out _).mono ?_
  rintro e w6 ⟨v, es, n, rfl, R6, E6, L6⟩
  have T6 : Hid (LC W z k l ib (fun _ => 0) v es n w6) := ⟨T5.out.step L6, R6⟩
  have EE := Lib.hid E6
  clear L6 T5 c0 c1 HEn R6 E6
  go_upto_region 8 with fail
  obtain ⟨c0, c1⟩ := T6.out.b.a.cells
  go_wp2_with fail
  refine (HCo.out _).mono ?_
  rintro e w7 ⟨c, u, rfl, R7, E7, L7⟩
  have T7 := Lib.hid (T6.out.step L7)
  have CC := Lib.hid E7
  have o1 := Lib.hid (qrow_one R7)
  clear L7 T6 c0 c1 HCo E7
  go_upto_region 9 with (refine wpList_store_blk rfl 37 (.tmp 9) (.tmp 41) rfl w7.heap.size 34 (cv c.tree u c.text) zc rfl rfl 37 (Blk.newAt _ (heap_alloc_new _ _) rfl) szCommit (fun i _ => cv_one _ _ o1.out _ i) ?_)
  rw [World.setRow_alloc_new]
  have T8 : Hid (LD W z k l ib (fun _ => 0) v es n w7.heap.size c u (w7.alloc (.cells (arr 34 (cv c.tree u c.text)) 37))) := ⟨T7.out.step ((Below.refl _ _).alloc (Nat.le_refl _) _), Blk.newAt _ (heap_alloc_new _ _) rfl, R7.below ((Below.refl _ _).alloc (Nat.le_refl _) _)⟩
  clear T7 R7
  generalize w7.alloc (.cells (arr 34 (cv c.tree u c.text)) 37) = w8 at T8 ⊢
  generalize w7.heap.size = cb at T8 ⊢
  obtain ⟨c0, c1⟩ := T8.out.lc.b.a.cells
  go_wp2_with fail
  refine (HCh.out _).mono ?_
  rintro e w9 ⟨x, H, m, rfl, R9, E9, L9⟩
  have T9 : Hid (LE W z k l ib (fun _ => 0) v es n cb c u x H m w9) := ⟨T8.out.step L9, R9⟩
  have KK := Lib.hid E9
  clear L9 T8 c0 c1 HCh R9 E9
  go_upto_region 10 with fail
  obtain ⟨c0, c1⟩ := T9.out.d.lc.b.a.cells
  go_wp2_with fail
  refine (HQ.out _).mono ?_
  rintro e w10 ⟨rfl, L10⟩
  have T10 := Lib.hid (T9.out.step L10)
  clear L10 T9 c0 c1 HQ
  obtain ⟨rfl, rfl⟩ := CC.out
  have ev := EE.out
  subst ev
  have em := KK.out
  subst em
  obtain ⟨ad, cap, rfl, -⟩ := row_addr T10.out.kids
  clear EE CC KK o1 TI
  go_upto_region 11 with fail
  refine wp_region_lit ?_
  refine wpList_callG (by kernel_rfl) fun K hK => ?_
  go_simp
  refine (HA.out _).mono ?_
  rintro e w11 ⟨rfl, L11⟩
  refine hK _ _ ?_
  clear hK K
  try simp only [Act.put, List.setIfInBounds_toArray, List.set_cons_zero, List.set_cons_succ]
  have T11 := Lib.hid (T10.out.step L11)
  clear L11 T10
  refine wpList_valS (v := ?_) (by kernel_rfl) ?_ ?_
  rotate_left 1
  · (go_simp; try with_reducible rfl)
  try simp only [Act.put, List.setIfInBounds_toArray, List.set_cons_zero, List.set_cons_succ]
  refine wpList_valG (by kernel_rfl) (ex_load 23 (.tmp 1) rfl z 0 2 (ov k l) rfl Tryz.underlying23 rfl szObject T11.out.d.lc.b.a.obj.at0) ?_
  try simp only [Act.put, List.setIfInBounds_toArray, List.set_cons_zero, List.set_cons_succ]
  refine wpList_callG (by kernel_rfl) fun K hK => ?_
  go_simp
  refine (HR.out _).mono ?_
  rintro e w12 ⟨rfl, L12⟩
  refine hK _ _ ?_
  clear hK K
  try simp only [Act.put, List.setIfInBounds_toArray, List.set_cons_zero, List.set_cons_succ]
  have T12 := Lib.hid (T11.out.step L12)
  clear L12 T11 HR
  refine wpList_valS (v := ?_) (by kernel_rfl) ?_ ?_
  rotate_left 1
  · (go_simp; try with_reducible rfl)
  try simp only [Act.put, List.setIfInBounds_toArray, List.set_cons_zero, List.set_cons_succ]
  refine wpList_valS (v := ?_) (by kernel_rfl) ?_ ?_
  rotate_left 1
  · (go_simp; try with_reducible rfl)
  try simp only [Act.put, List.setIfInBounds_toArray, List.set_cons_zero, List.set_cons_succ]
  refine wpList_valS (v := ?_) (by kernel_rfl) ?_ ?_
  rotate_left 1
  · (go_simp; try with_reducible rfl)
  try simp only [Act.put, List.setIfInBounds_toArray, List.set_cons_zero, List.set_cons_succ]
  refine wpList_valS (v := ?_) (by kernel_rfl) ?_ ?_
  rotate_left 1
  · (go_simp; try with_reducible rfl)
  try simp only [Act.put, List.setIfInBounds_toArray, List.set_cons_zero, List.set_cons_succ]
  refine wpList_valS (v := ?_) (by kernel_rfl) ?_ ?_
  rotate_left 1
  · (go_simp; try with_reducible rfl)
  try simp only [Act.put, List.setIfInBounds_toArray, List.set_cons_zero, List.set_cons_succ]
  refine wpList_valS (v := ?_) (by kernel_rfl) ?_ ?_
  rotate_left 1
  · (go_simp; try with_reducible rfl)
  try simp only [Act.put, List.setIfInBounds_toArray, List.set_cons_zero, List.set_cons_succ]
  refine wpList_valS (v := ?_) (by kernel_rfl) ?_ ?_
  rotate_left 1
  · (go_simp; try with_reducible rfl)
  try simp only [Act.put, List.setIfInBounds_toArray, List.set_cons_zero, List.set_cons_succ]
  refine wpList_valS (v := ?_) (by kernel_rfl) ?_ ?_
  rotate_left 1
  · (go_simp; try with_reducible rfl)
  try simp only [Act.put, List.setIfInBounds_toArray, List.set_cons_zero, List.set_cons_succ]
  refine wpList_valS (v := ?_) (by kernel_rfl) ?_ ?_
  rotate_left 1
  · (go_simp; try with_reducible rfl)
  try simp only [Act.put, List.setIfInBounds_toArray, List.set_cons_zero, List.set_cons_succ]
  refine wpList_valS (v := ?_) (by kernel_rfl) ?_ ?_
  rotate_left 1
  · (go_simp; try with_reducible rfl)
  try simp only [Act.put, List.setIfInBounds_toArray, List.set_cons_zero, List.set_cons_succ]
  refine wpList_valS (v := ?_) (by kernel_rfl) ?_ ?_
  rotate_left 1
  · (go_simp; try with_reducible rfl)
  try simp only [Act.put, List.setIfInBounds_toArray, List.set_cons_zero, List.set_cons_succ]
  refine wpList_valS (v := ?_) (by kernel_rfl) ?_ ?_
  rotate_left 1
  · (go_simp; try with_reducible rfl)
  try simp only [Act.put, List.setIfInBounds_toArray, List.set_cons_zero, List.set_cons_succ]
  refine wpList_valS (v := ?_) (by kernel_rfl) ?_ ?_
  rotate_left 1
  · (go_simp; try with_reducible rfl)
  try simp only [Act.put, List.setIfInBounds_toArray, List.set_cons_zero, List.set_cons_succ]
  refine wpList_valS (v := ?_) (by kernel_rfl) ?_ ?_
  rotate_left 1
  · (go_simp; try with_reducible rfl)
  try simp only [Act.put, List.setIfInBounds_toArray, List.set_cons_zero, List.set_cons_succ]
  refine wpList_valS (v := ?_) (by kernel_rfl) ?_ ?_
  rotate_left 1
  · (go_simp; try with_reducible rfl)
  try simp only [Act.put, List.setIfInBounds_toArray, List.set_cons_zero, List.set_cons_succ]
  refine wpList_valG (by kernel_rfl) (ex_load 29 (.tmp 5) rfl ib 0 32 (bv fun _ => 0) rfl Tryz.underlying29 rfl sz30 T12.out.d.lc.b.id.at0) ?_
  try simp only [Act.put, List.setIfInBounds_toArray, List.set_cons_zero, List.set_cons_succ]
  refine wpList_valG (by kernel_rfl) (ex_build0 rfl (bd_zid _)) ?_
  try simp only [Act.put, List.setIfInBounds_toArray, List.set_cons_zero, List.set_cons_succ]
  refine wpList_valS (v := ?_) (by kernel_rfl) ?_ ?_
  rotate_left 1
  · (go_simp; try with_reducible rfl)
  try simp only [Act.put, List.setIfInBounds_toArray, List.set_cons_zero, List.set_cons_succ]
  refine wpList_valS (v := ?_) (by kernel_rfl) ?_ ?_
  rotate_left 1
  · (go_simp; try with_reducible rfl)
  try simp only [Act.put, List.setIfInBounds_toArray, List.set_cons_zero, List.set_cons_succ]
  refine wpList_valS (v := ?_) (by kernel_rfl) ?_ ?_
  rotate_left 1
  · (go_simp; try with_reducible rfl)
  try simp only [Act.put, List.setIfInBounds_toArray, List.set_cons_zero, List.set_cons_succ]
  refine wpList_valS (v := ?_) (by kernel_rfl) ?_ ?_
  rotate_left 1
  · (go_simp; try with_reducible rfl)
  try simp only [Act.put, List.setIfInBounds_toArray, List.set_cons_zero, List.set_cons_succ]
  refine wpList_valS (v := ?_) (by kernel_rfl) ?_ ?_
  rotate_left 1
  · (go_simp; try with_reducible rfl)
  try simp only [Act.put, List.setIfInBounds_toArray, List.set_cons_zero, List.set_cons_succ]
  refine wpList_valS (v := ?_) (by kernel_rfl) ?_ ?_
  rotate_left 1
  · (go_simp; try with_reducible rfl)
  try simp only [Act.put, List.setIfInBounds_toArray, List.set_cons_zero, List.set_cons_succ]
  refine wpList_valS (v := ?_) (by kernel_rfl) ?_ ?_
  rotate_left 1
  · (go_simp; try with_reducible rfl)
  try simp only [Act.put, List.setIfInBounds_toArray, List.set_cons_zero, List.set_cons_succ]
  refine wpList_valS (v := ?_) (by kernel_rfl) ?_ ?_
  rotate_left 1
  · (go_simp; try with_reducible rfl)
  try simp only [Act.put, List.setIfInBounds_toArray, List.set_cons_zero, List.set_cons_succ]
  refine wpList_valS (v := ?_) (by kernel_rfl) ?_ ?_
  rotate_left 1
  · (go_simp; try with_reducible rfl)
  try simp only [Act.put, List.setIfInBounds_toArray, List.set_cons_zero, List.set_cons_succ]
  refine wpList_valS (v := ?_) (by kernel_rfl) ?_ ?_
  rotate_left 1
  · (go_simp; try with_reducible rfl)
  try simp only [Act.put, List.setIfInBounds_toArray, List.set_cons_zero, List.set_cons_succ]
  refine wpList_valS (v := ?_) (by kernel_rfl) ?_ ?_
  rotate_left 1
  · (go_simp; try with_reducible rfl)
  try simp only [Act.put, List.setIfInBounds_toArray, List.set_cons_zero, List.set_cons_succ]
  refine wpList_valS (v := ?_) (by kernel_rfl) ?_ ?_
  rotate_left 1
  · (go_simp; try with_reducible rfl)
  try simp only [Act.put, List.setIfInBounds_toArray, List.set_cons_zero, List.set_cons_succ]
  refine wpList_valG (by kernel_rfl) (ex_load 37 (.tmp 9) rfl cb 0 34 (cv zeroC.tree (.slice none 0 0) zeroC.text) rfl Tryz.underlying37 rfl szCommit T12.out.d.com.at0) ?_
  try simp only [Act.put, List.setIfInBounds_toArray, List.set_cons_zero, List.set_cons_succ]
  refine wpList_valG (by kernel_rfl) (ex_build0 rfl (bd_zcom _)) ?_
  try simp only [Act.put, List.setIfInBounds_toArray, List.set_cons_zero, List.set_cons_succ]
  refine wpList_callG (by kernel_rfl) fun K hK => ?_
  go_simp
  refine (HSC.out _).mono ?_
  rintro e w13 ⟨rfl, L13⟩
  refine hK _ _ ?_
  clear hK K
  try simp only [Act.put, List.setIfInBounds_toArray, List.set_cons_zero, List.set_cons_succ]
  have T13 := Lib.hid (T12.out.step L13)
  clear L13 T12 HSC
  refine wpList_valS (v := ?_) (by kernel_rfl) ?_ ?_
  rotate_left 1
  · (go_simp; try with_reducible rfl)
  try simp only [Act.put, List.setIfInBounds_toArray, List.set_cons_zero, List.set_cons_succ]
  refine wpList_valS (v := ?_) (by kernel_rfl) ?_ ?_
  rotate_left 1
  · (go_simp; try with_reducible rfl)
  try simp only [Act.put, List.setIfInBounds_toArray, List.set_cons_zero, List.set_cons_succ]
  refine wpList_valS (v := ?_) (by kernel_rfl) ?_ ?_
  rotate_left 1
  · (go_simp; try with_reducible rfl)
  try simp only [Act.put, List.setIfInBounds_toArray, List.set_cons_zero, List.set_cons_succ]
  refine wpList_valS (v := ?_) (by kernel_rfl) ?_ ?_
  rotate_left 1
  · (go_simp; try with_reducible rfl)
  try simp only [Act.put, List.setIfInBounds_toArray, List.set_cons_zero, List.set_cons_succ]
  refine wpList_valS (v := ?_) (by kernel_rfl) ?_ ?_
  rotate_left 1
  · (go_simp; try with_reducible rfl)
  try simp only [Act.put, List.setIfInBounds_toArray, List.set_cons_zero, List.set_cons_succ]
  refine wpList_valS (v := ?_) (by kernel_rfl) ?_ ?_
  rotate_left 1
  · (go_simp; try with_reducible rfl)
  try simp only [Act.put, List.setIfInBounds_toArray, List.set_cons_zero, List.set_cons_succ]
  refine wpList_valS (v := ?_) (by kernel_rfl) ?_ ?_
  rotate_left 1
  · (go_simp; try with_reducible rfl)
  try simp only [Act.put, List.setIfInBounds_toArray, List.set_cons_zero, List.set_cons_succ]
  refine wpList_valS (v := ?_) (by kernel_rfl) ?_ ?_
  rotate_left 1
  · (go_simp; try with_reducible rfl)
  try simp only [Act.put, List.setIfInBounds_toArray, List.set_cons_zero, List.set_cons_succ]
  refine wpList_valS (v := ?_) (by kernel_rfl) ?_ ?_
  rotate_left 1
  · (go_simp; try with_reducible rfl)
  try simp only [Act.put, List.setIfInBounds_toArray, List.set_cons_zero, List.set_cons_succ]
  refine wpList_valS (v := ?_) (by kernel_rfl) ?_ ?_
  rotate_left 1
  · (go_simp; try with_reducible rfl)
  try simp only [Act.put, List.setIfInBounds_toArray, List.set_cons_zero, List.set_cons_succ]
  refine wpList_valS (v := ?_) (by kernel_rfl) ?_ ?_
  rotate_left 1
  · (go_simp; try with_reducible rfl)
  try simp only [Act.put, List.setIfInBounds_toArray, List.set_cons_zero, List.set_cons_succ]
  refine wpList_nil ?_
  go_wp2
  go_ret
  exact ⟨rfl, T13.out.d.lc.b.a.keep⟩
end Go.Proofs.YtlbclfponongbaaGreatDoor
