import Derived.Test.YtlbclfponongbaaGreatDoorR1
import Derived.Test.YtlbclfponongbaaGreatDoorDR3m
import Derived.Test.YtlbclfponongbaaGreatDoorWcm
/- The reference's frame; an object's id, by the program and by the reference. -/
namespace Go.Proofs.YtlbclfponongbaaGreatDoor
open Go.RowKit Classical
set_option maxHeartbeats 2000000 in
set_option maxRecDepth 100000 in
theorem qframe_any (k : Int) (l : List UInt8) (w : World) (hk : k = 1 ∨ k = 2 ∨ k = 3) (hl : l.length ≤ 4096) :
    Calls Tryz.prog 13 #[.agg #[.int .i64 k, .string (bs l)]] w fun e w' => e = .returned (.string (bs (fb k l))) ∧ Below w.heap.size w w' := by
  have L0 : Hid (Below w.heap.size w (w.alloc (.cells #[.int .i64 k, .string (bs l)] 23))) := (Below.refl _ _).alloc (Nat.le_refl _) _
  have c0 : (w.alloc (.cells #[.int .i64 k, .string (bs l)] 23)).cell? ⟨w.heap.size, 0, none⟩ = some (.int .i64 k) := cell_of_row _ _ _ _ _ _ (heap_alloc_new _ _)
  have c1 : (w.alloc (.cells #[.int .i64 k, .string (bs l)] 23)).cell? ⟨w.heap.size, 1, none⟩ = some (.string (bs l)) := cell_of_row _ _ _ _ _ _ (heap_alloc_new _ _)
  have HT := Lib.hid (fun W => reftext_any l W (by omega))
  have hap : bs [lt k] ++ bs (tx l) = bs (fb k l) := by rw [bs_append]; rfl
  have hsz : ¬ 9223372036854775807 < (bs [lt k]).size + (bs (tx l)).size := by
    rw [bs_size, bs_size, tx_len]
    have := dg_le6 (clamp_le (l.length : Int))
    simp only [List.length_singleton]
    omega
  generalize bs (fb k l) = F at hap ⊢
  generalize bs (tx l) = t at HT hap hsz
  generalize bs l = sb at HT c0 c1 L0 ⊢
  clear hl
  rcases hk with rfl | rfl | rfl
  · rw [show bs [lt 1] = (⟨#[98]⟩ : ByteArray) from rfl] at hap hsz
    go_enter Tryz.func13, Tryz.ntmps13
    go_wp2_with fail
    refine (HT.out _).mono ?_
    rintro e w2 ⟨rfl, L2⟩
    have L3 := Lib.hid (L0.out.trans (L2.mono L0.out.size))
    clear L2 L0 HT c0 c1
    go_wp2
    go_ret
    exact ⟨rfl, L3.out⟩
  · rw [show bs [lt 2] = (⟨#[116]⟩ : ByteArray) from rfl] at hap hsz
    go_enter Tryz.func13, Tryz.ntmps13
    go_wp2_with fail
    refine (HT.out _).mono ?_
    rintro e w2 ⟨rfl, L2⟩
    have L3 := Lib.hid (L0.out.trans (L2.mono L0.out.size))
    clear L2 L0 HT c0 c1
    go_wp2
    go_ret
    exact ⟨rfl, L3.out⟩
  · rw [show bs [lt 3] = (⟨#[99]⟩ : ByteArray) from rfl] at hap hsz
    go_enter Tryz.func13, Tryz.ntmps13
    go_wp2_with fail
    refine (HT.out _).mono ?_
    rintro e w2 ⟨rfl, L2⟩
    have L3 := Lib.hid (L0.out.trans (L2.mono L0.out.size))
    clear L2 L0 HT c0 c1
    go_wp2
    go_ret
    exact ⟨rfl, L3.out⟩
/- the laid words stand -/
def Tie (w : World) : Prop := ∀ i, i < 64 → w.cell? ⟨1, i, none⟩ = some (Dg.wv Dg.kk i)
theorem Tie.below {w w' : World} (h : Tie w) (hb : Below w.heap.size w w') : Tie w' := fun i hi => by
  rw [hb.cell (block_lt_of_cell (h i hi))]; exact h i hi
def idD (k : Int) (l : List UInt8) : Nat → UInt8 := Dg.dig (Dg.sAt (bs (fb k l))) (bs (fb k l)).size
theorem fb_size (k : Int) (l : List UInt8) (hl : l.length ≤ 4096) : (bs (fb k l)).size ≤ 1073741824 := by
  rw [bs_size]
  unfold fb
  rw [List.length_cons, tx_len]
  have := dg_le6 (clamp_le (l.length : Int))
  omega
theorem bd_zid (w : World) : (Instr.build 29 #[]).run Tryz.prog w = .ok (.agg (arr 32 (bv fun _ => 0))) w := by kernel_rfl
end Go.Proofs.YtlbclfponongbaaGreatDoor
/- An object's id, by the program. -/
namespace Go.Proofs.YtlbclfponongbaaGreatDoor
open Go.RowKit Classical
theorem bs_run (F : ByteArray) (w : World) : (Instr.buildSlice 90 1 #[(0, .string F)]).run Tryz.prog w = .ok (.slice (some ⟨w.heap.size, 0, none⟩) 1 1) (w.alloc (.cells #[.string F] 9)) := by kernel_rfl
theorem ex_buildS {o : Oper} {a : Act} {w : World} (x : Operand) (ho : o.op = .buildSlice 90 1 #[(0, x)]) (F : ByteArray) (hx : a.eval x = .string F) :
    (execOp a.eval o).run Tryz.prog w = .ok (.value (.slice (some ⟨w.heap.size, 0, none⟩) 1 1)) (w.alloc (.cells #[.string F] 9)) := by
  have hr := bs_run F w
  unfold execOp
  simp only [ho, List.map_toArray, List.map_cons, List.map_nil, hx, Sem.run_bind, hr, Result.andThen_ok]
  rfl
set_option maxHeartbeats 2000000 in
set_option maxRecDepth 100000 in
theorem oid_any (k : Int) (l : List UInt8) (w : World) (hT : Tie w) :
    Calls Tryz.prog 6 #[.agg #[.int .i64 k, .string (bs l)]] w fun e w' => (objOk k l → e = .returned (.tuple #[.agg (arr 32 (bv (idD k l))), .bool true])) ∧ (¬ objOk k l → e = .returned (.tuple #[.agg (arr 32 (bv fun _ => 0)), .bool false])) ∧ Below w.heap.size w w' := by
  have z1 : (w.alloc (.cells #[.int .i64 k, .string (bs l)] 23)).heap.size = w.heap.size + 1 := by simp
  have BZ : Hid (Blk ((w.alloc (.cells #[.int .i64 k, .string (bs l)] 23)).alloc (.cells (arr 32 (bv fun _ => 0)) 29)) (w.heap.size + 1) 29 32 (bv fun _ => 0)) := by
    show Blk _ _ _ _ _
    rw [← z1]; exact Blk.newAt _ (heap_alloc_new _ _) rfl
  have L0 : Hid (Below w.heap.size w ((w.alloc (.cells #[.int .i64 k, .string (bs l)] 23)).alloc (.cells (arr 32 (bv fun _ => 0)) 29))) := ((Below.refl _ _).alloc (Nat.le_refl _) _).alloc (by simp) _
  have c0 : ((w.alloc (.cells #[.int .i64 k, .string (bs l)] 23)).alloc (.cells (arr 32 (bv fun _ => 0)) 29)).cell? ⟨w.heap.size, 0, none⟩ = some (.int .i64 k) := cell_of_row _ _ _ _ _ _ (heap_alloc2_old _ _ _)
  have c1 : ((w.alloc (.cells #[.int .i64 k, .string (bs l)] 23)).alloc (.cells (arr 32 (bv fun _ => 0)) 29)).cell? ⟨w.heap.size, 1, none⟩ = some (.string (bs l)) := cell_of_row _ _ _ _ _ _ (heap_alloc2_old _ _ _)
  have TI := Lib.hid hT
  have FS : Hid (objOk k l → (bs (fb k l)).size ≤ 1073741824) := fun h => fb_size k l h.1
  have HF := Lib.hid (fun W => frame_any k l W)
  obtain ⟨D, hD⟩ : ∃ D, D = idD k l := ⟨_, rfl⟩
  rw [← hD]
  have HD := Lib.hid hD
  clear z1 hT hD
  go_enter Tryz.func6, Tryz.ntmps6
  go_upto_region 1 with fail
  change Code.wp _ _ _ _ ((w.alloc (.cells #[.int .i64 k, .string (bs l)] 23)).alloc (.cells (arr 32 (bv fun _ => 0)) 29))
  generalize (w.alloc (.cells #[.int .i64 k, .string (bs l)] 23)).alloc (.cells (arr 32 (bv fun _ => 0)) 29) = w1 at BZ L0 c0 c1 ⊢
  by_cases ho : objOk k l
  · have fs := FS.out ho
    have HF' : Hid (∀ W, Calls Tryz.prog 5 #[.agg #[.int .i64 k, .string (bs l)]] W fun e w' => e = .returned (.tuple #[.string (bs (fb k l)), .int .i64 0]) ∧ Below W.heap.size W w') := fun W => (HF.out W).mono fun e w' h => ⟨h.1 ho, h.2.2⟩
    have SO' : Hid (∀ b W, b < W.heap.size → W.cell? ⟨b, 0, none⟩ = some (.string (bs (fb k l))) → Tie W → Calls Tryz.prog 25 #[.slice (some ⟨b, 0, none⟩) 1 1] W fun e w' => e = .returned (.agg (arr 32 (bv D))) ∧ Below W.heap.size W w') := fun b W hb hc ht => by rw [HD.out]; exact Dg.sum_one (bs (fb k l)) b W fs hb hc ht
    have HO := Lib.hid ho
    clear ho fs HF FS
    generalize bs (fb k l) = F at HF' SO'
    go_wp2_with fail
    refine (HF'.out _).mono ?_
    rintro e w2 ⟨rfl, L2⟩
    have B2 := Lib.hid (BZ.out.below L2 BZ.out.lt)
    have L2' := Lib.hid (L0.out.trans (L2.mono L0.out.size))
    clear L2 L0 BZ c0 c1 HF'
    go_upto_region 4 with fail
    have c5 : (w2.alloc (.cells #[.string F] 9)).cell? ⟨w2.heap.size, 0, none⟩ = some (.string F) := cell_of_row _ _ _ _ _ _ (heap_alloc_new _ _)
    have A5 : Below w2.heap.size w2 (w2.alloc (.cells #[.string F] 9)) := (Below.refl _ _).alloc (Nat.le_refl _) _
    have T5 := Lib.hid ((TI.out.below L2'.out).below A5)
    have B5 := Lib.hid (B2.out.below A5 B2.out.lt)
    have L5 := Lib.hid (L2'.out.trans (A5.mono L2'.out.size))
    have HC := SO'.out w2.heap.size (w2.alloc (.cells #[.string F] 9)) (by simp) c5 T5.out
    clear A5 T5 B2 L2' SO' TI c5
    refine wp_region_lit ?_
    refine wpList_valS (v := ?_) (by kernel_rfl) ?_ ?_
    rotate_left 1
    · (go_simp; try with_reducible rfl)
    try simp only [Act.put, List.setIfInBounds_toArray, List.set_cons_zero, List.set_cons_succ]
    refine wpList_valG (by kernel_rfl) (ex_buildS (.tmp 14) rfl F rfl) ?_
    try simp only [Act.put, List.setIfInBounds_toArray, List.set_cons_zero, List.set_cons_succ]
    refine wpList_callG (by kernel_rfl) fun K hK => ?_
    go_simp
    refine (HC).mono ?_
    rintro e w6 ⟨rfl, L6⟩
    refine hK _ _ ?_
    clear hK K
    try simp only [Act.put, List.setIfInBounds_toArray, List.set_cons_zero, List.set_cons_succ]
    have B6 := Lib.hid (B5.out.below L6 B5.out.lt)
    have L6' := Lib.hid (L5.out.trans (L6.mono L5.out.size))
    clear L6 HC B5 L5
    refine wpList_unitG (by kernel_rfl) (ex_store 29 (.tmp 2) (.tmp 16) rfl (w.heap.size + 1) 0 32 (bv D) rfl rfl (B6.out.there 0 32 (by omega)) sz30 (fun _ _ => rfl)) ?_
    try simp only [Act.put, List.setIfInBounds_toArray, List.set_cons_zero, List.set_cons_succ]
    refine wpList_valS (v := ?_) (by kernel_rfl) ?_ ?_
    rotate_left 1
    · (go_simp; try with_reducible rfl)
    try simp only [Act.put, List.setIfInBounds_toArray, List.set_cons_zero, List.set_cons_succ]
    refine wpList_nil ?_
    have B7 := B6.out.over (bv D)
    have KZ := keep_setCells (b := w.heap.size + 1) (arr 32 (bv D)).toList 0 w6
    have L7 : Hid (Below w.heap.size w (w6.setCells (w.heap.size + 1) 0 (arr 32 (bv D)).toList)) := ((Keep.of_below L6'.out (fun b hb _ => hb) : Keep (fun b => b < w.heap.size) w w6).trans (KZ.mono fun b hb _ => by omega)).below (Nat.le_refl _)
    clear B6 L6' KZ
    generalize w6.setCells (w.heap.size + 1) 0 (arr 32 (bv D)).toList = w7 at B7 L7 ⊢
    go_wp2
    exact bodyPost_ret (results_blk2 rfl _ _ (w.heap.size + 1) 29 32 (bv D) B7 _ rfl ty30 rfl sz30) rfl ⟨fun _ => rfl, fun h => absurd HO.out h, L7.out⟩
  · have HF' : Hid (∀ W, Calls Tryz.prog 5 #[.agg #[.int .i64 k, .string (bs l)]] W fun e w' => e = .returned (.tuple #[.string ⟨#[]⟩, .int .i64 1]) ∧ Below W.heap.size W w') := fun W => (HF.out W).mono fun e w' h => ⟨h.2.1 ho, h.2.2⟩
    have HO := Lib.hid ho
    clear ho HF FS
    go_wp2_with fail
    refine (HF'.out _).mono ?_
    rintro e w2 ⟨rfl, L2⟩
    have B2 := Lib.hid (BZ.out.below L2 BZ.out.lt)
    have L2' := Lib.hid (L0.out.trans (L2.mono L0.out.size))
    clear L2 L0 BZ c0 c1 HF'
    go_upto_region 3 with fail
    refine wp_region_lit ?_
    refine wpList_valG (by kernel_rfl) (ex_build0 rfl (bd_zid _)) ?_
    try simp only [Act.put, List.setIfInBounds_toArray, List.set_cons_zero, List.set_cons_succ]
    refine wpList_unitG (by kernel_rfl) (ex_store 29 (.tmp 2) (.tmp 13) rfl (w.heap.size + 1) 0 32 (bv fun _ => 0) rfl rfl (B2.out.there 0 32 (by omega)) sz30 (fun _ _ => rfl)) ?_
    try simp only [Act.put, List.setIfInBounds_toArray, List.set_cons_zero, List.set_cons_succ]
    refine wpList_valS (v := ?_) (by kernel_rfl) ?_ ?_
    rotate_left 1
    · (go_simp; try with_reducible rfl)
    try simp only [Act.put, List.setIfInBounds_toArray, List.set_cons_zero, List.set_cons_succ]
    refine wpList_nil ?_
    have B7 := B2.out.over (bv fun _ => 0)
    have KZ := keep_setCells (b := w.heap.size + 1) (arr 32 (bv fun _ => 0)).toList 0 w2
    have L7 : Hid (Below w.heap.size w (w2.setCells (w.heap.size + 1) 0 (arr 32 (bv fun _ => 0)).toList)) := ((Keep.of_below L2'.out (fun b hb _ => hb) : Keep (fun b => b < w.heap.size) w w2).trans (KZ.mono fun b hb _ => by omega)).below (Nat.le_refl _)
    clear B2 L2' KZ
    generalize w2.setCells (w.heap.size + 1) 0 (arr 32 (bv fun _ => 0)).toList = w7 at B7 L7 ⊢
    go_wp2
    exact bodyPost_ret (results_blk2 rfl _ _ (w.heap.size + 1) 29 32 (bv fun _ => 0) B7 _ rfl ty30 rfl sz30) rfl ⟨fun h => absurd h HO.out, fun _ => rfl, L7.out⟩
end Go.Proofs.YtlbclfponongbaaGreatDoor
/- An object's id, by the reference. -/
namespace Go.Proofs.YtlbclfponongbaaGreatDoor
open Go.RowKit Classical
set_option maxHeartbeats 2000000 in
set_option maxRecDepth 100000 in
theorem qidd_any (k : Int) (l : List UInt8) (w : World) (hk : k = 1 ∨ k = 2 ∨ k = 3) (hl : l.length ≤ 4096) :
    Calls Tryz.prog 14 #[.agg #[.int .i64 k, .string (bs l)]] w fun e w' => e = .returned (.agg (arr 32 (bv (idD k l)))) ∧ Below w.heap.size w w' := by
  have z1 : (w.alloc (.cells #[.int .i64 k, .string (bs l)] 23)).heap.size = w.heap.size + 1 := by simp
  have BZ : Hid (Blk ((w.alloc (.cells #[.int .i64 k, .string (bs l)] 23)).alloc (.cells (arr 32 (bv fun _ => 0)) 29)) (w.heap.size + 1) 29 32 (bv fun _ => 0)) := by
    show Blk _ _ _ _ _
    rw [← z1]; exact Blk.newAt _ (heap_alloc_new _ _) rfl
  have L0 : Hid (Below w.heap.size w ((w.alloc (.cells #[.int .i64 k, .string (bs l)] 23)).alloc (.cells (arr 32 (bv fun _ => 0)) 29))) := ((Below.refl _ _).alloc (Nat.le_refl _) _).alloc (by simp) _
  have c0 : ((w.alloc (.cells #[.int .i64 k, .string (bs l)] 23)).alloc (.cells (arr 32 (bv fun _ => 0)) 29)).cell? ⟨w.heap.size, 0, none⟩ = some (.int .i64 k) := cell_of_row _ _ _ _ _ _ (heap_alloc2_old _ _ _)
  have c1 : ((w.alloc (.cells #[.int .i64 k, .string (bs l)] 23)).alloc (.cells (arr 32 (bv fun _ => 0)) 29)).cell? ⟨w.heap.size, 1, none⟩ = some (.string (bs l)) := cell_of_row _ _ _ _ _ _ (heap_alloc2_old _ _ _)
  have HF := Lib.hid (fun W => qframe_any k l W hk hl)
  have HS : Hid (∀ W, Calls Tryz.prog 29 #[.string (bs (fb k l))] W fun e w' => e = .returned (.agg (arr 32 (bv (idD k l)))) ∧ Below W.heap.size W w') := fun W => Dg.refsum_any (bs (fb k l)) W (fb_size k l hl)
  generalize idD k l = D at HS ⊢
  generalize bs (fb k l) = F at HF HS
  clear z1 hk hl
  go_enter Tryz.func14, Tryz.ntmps14
  go_upto_region 1 with fail
  change Code.wp _ _ _ _ ((w.alloc (.cells #[.int .i64 k, .string (bs l)] 23)).alloc (.cells (arr 32 (bv fun _ => 0)) 29))
  generalize (w.alloc (.cells #[.int .i64 k, .string (bs l)] 23)).alloc (.cells (arr 32 (bv fun _ => 0)) 29) = w1 at BZ L0 c0 c1 ⊢
  refine wp_region_lit ?_
  refine wpList_valS (v := ?_) (by kernel_rfl) ?_ ?_
  rotate_left 1
  · (go_simp; try with_reducible rfl)
  try simp only [Act.put, List.setIfInBounds_toArray, List.set_cons_zero, List.set_cons_succ]
  refine wpList_callG (by kernel_rfl) fun K hK => ?_
  go_simp
  refine (HF.out _).mono ?_
  rintro e w2 ⟨rfl, L2⟩
  refine hK _ _ ?_
  clear hK K
  try simp only [Act.put, List.setIfInBounds_toArray, List.set_cons_zero, List.set_cons_succ]
  have B2 := Lib.hid (BZ.out.below L2 BZ.out.lt)
  have L2' := Lib.hid (L0.out.trans (L2.mono L0.out.size))
  clear L2 L0 BZ c0 c1 HF
  refine wpList_callG (by kernel_rfl) fun K hK => ?_
  go_simp
  refine (HS.out _).mono ?_
  rintro e w6 ⟨rfl, L6⟩
  refine hK _ _ ?_
  clear hK K
  try simp only [Act.put, List.setIfInBounds_toArray, List.set_cons_zero, List.set_cons_succ]
  have B6 := Lib.hid (B2.out.below L6 B2.out.lt)
  have L6' := Lib.hid (L2'.out.trans (L6.mono L2'.out.size))
  clear L6 HS B2 L2'
  refine wpList_unitG (by kernel_rfl) (ex_store 29 (.tmp 2) (.tmp 5) rfl (w.heap.size + 1) 0 32 (bv D) rfl rfl (B6.out.there 0 32 (by omega)) sz30 (fun _ _ => rfl)) ?_
  try simp only [Act.put, List.setIfInBounds_toArray, List.set_cons_zero, List.set_cons_succ]
  refine wpList_nil ?_
  have B7 := B6.out.over (bv D)
  have KZ := keep_setCells (b := w.heap.size + 1) (arr 32 (bv D)).toList 0 w6
  have L7 : Hid (Below w.heap.size w (w6.setCells (w.heap.size + 1) 0 (arr 32 (bv D)).toList)) := ((Keep.of_below L6'.out (fun b hb _ => hb) : Keep (fun b => b < w.heap.size) w w6).trans (KZ.mono fun b hb _ => by omega)).below (Nat.le_refl _)
  clear B6 L6' KZ
  generalize w6.setCells (w.heap.size + 1) 0 (arr 32 (bv D)).toList = w7 at B7 L7 ⊢
  go_wp2
  exact bodyPost_ret (v := .agg (arr 32 (bv D))) (results_blk rfl _ _ (w.heap.size + 1) 29 32 _ B7 _ rfl ty30 rfl sz30) rfl ⟨rfl, L7.out⟩
end Go.Proofs.YtlbclfponongbaaGreatDoor
