import Derived.Test.YtnfhnkplkbpmpaaDoorW2
import Derived.Deep.WholeRow
import Derived.Lib.Hide
import Derived.Test.YtnfhnkplkbpmpaaDoorPc
namespace Go.Proofs.YtnfhnkplkbpmpaaDoor
open Go.RowKit
attribute [local go_sem] U_xor U_and U_or U_add U_addm U_not
theorem ty31 : Tryd.prog.underlying 31 = some (.array 8 30) := by kernel_rfl
theorem sz31 : (Tryd.prog.info? 31).map (·.size) = some 8 := by kernel_rfl
set_option maxHeartbeats 2000000 in
set_option maxRecDepth 100000 in
theorem turned_any (st : Nat → W32) (hb off : Nat) (f : Nat → UInt8) (w : World)
    (hc : ∀ i, i < 64 → w.cell? ⟨hb, off + i, none⟩ = some (.int .u8 ((f i).toNat : Int))) (hlt : hb < w.heap.size)
    (hk : ∀ i, i < 64 → w.cell? ⟨0, i, none⟩ = some (wv kk i)) :
    Calls Tryd.prog 27 #[.agg (arr 8 (wv st)), .pointer (some ⟨hb, off, none⟩)] w fun e w' => e = .returned (.agg (arr 8 (wv (cmpr st f)))) ∧ Below w.heap.size w w' := by
  have h0 : 0 < w.heap.size := block_lt_of_cell (hk 0 (by omega))
  go_enter Tryd.func27, Tryd.ntmps27
  go_wp2_with fail
  have S0 : ∀ A B, Blk ((w.alloc (.cells (arr 8 (wv st)) A)).alloc B) w.heap.size A 8 (wv st) := fun A B => Blk.newAt _ (heap_alloc2_old w _ _) rfl
  have L0 : ∀ A B, Below w.heap.size w ((w.alloc A).alloc B) := fun A B => ((Below.refl _ _).alloc (Nat.le_refl _) _).alloc (by simp) _
  have Z0 : ∀ A B, ((w.alloc A).alloc B).heap.size = w.heap.size + 2 := fun A B => by show ((w.heap.push A).push B).size = _; simp
  refine (words_any hb off f _ (fun i hi => by rw [(L0 _ _).cell hlt]; exact hc i hi) (by simp; omega)).mono ?_
  rintro e w1 ⟨rfl, hb1⟩
  have S1 := (S0 _ _).below hb1 (by simp <;> omega)
  have R1 : Blk w1 (w.heap.size + 1) 31 8 (fun _ => .int .u32 0) := Blk.below (Blk.newAt _ (heap_alloc2_new w _ _) rfl) hb1 (by simp <;> omega)
  have L1 := (L0 _ _).trans (hb1.mono (by simp; omega))
  have Z1 : w.heap.size + 2 ≤ w1.heap.size := by have := hb1.size; simpa using this
  clear hb1 S0 L0 Z0
  have hk1 : ∀ i, i < 64 → w1.cell? ⟨0, i, none⟩ = some (wv kk i) := fun i hi => by rw [L1.cell h0]; exact hk i hi
  clear hc hk
  go_upto_region 2 with (refine wpList_store_blk rfl 58 (.tmp 5) (.tmp 18) rfl w1.heap.size 64 (fun j => .int .u32 (U (sch (wd f) j))) (fun _ => .int .u32 0) rfl rfl 58 (Blk.newAt _ (heap_alloc_new _ _) rfl) sz58 (fun _ _ => rfl) ?_)
  rw [World.setRow_alloc_new]
  have S2 := S1.alloc (.cells (arr 64 fun j => .int .u32 (U (sch (wd f) j))) 58)
  have R2 := R1.alloc (.cells (arr 64 fun j => .int .u32 (U (sch (wd f) j))) 58)
  have L2 := L1.alloc (by omega) (.cells (arr 64 fun j => .int .u32 (U (sch (wd f) j))) 58)
  have W2 : Blk (w1.alloc (.cells (arr 64 fun j => .int .u32 (U (sch (wd f) j))) 58)) w1.heap.size 58 64 (wv (sch (wd f))) := Blk.newAt _ (heap_alloc_new _ _) rfl
  have hk2 : ∀ i, i < 64 → (w1.alloc (.cells (arr 64 fun j => .int .u32 (U (sch (wd f) j))) 58)).cell? ⟨0, i, none⟩ = some (wv kk i) := fun i hi => by
    rw [L2.cell h0, ← L1.cell h0]; exact hk1 i hi
  clear hk1 S1 R1 L1
  generalize (w1.alloc (.cells (arr 64 fun j => .int .u32 (U (sch (wd f) j))) 58)) = w2 at S2 R2 L2 W2 hk2 ⊢
  have c0 : w2.cell? ⟨w.heap.size, 0, none⟩ = some (.int .u32 (U (st 0))) := S2.cell 0 (by omega)
  have c1 : w2.cell? ⟨w.heap.size, 1, none⟩ = some (.int .u32 (U (st 1))) := S2.cell 1 (by omega)
  have c2 : w2.cell? ⟨w.heap.size, 2, none⟩ = some (.int .u32 (U (st 2))) := S2.cell 2 (by omega)
  have c3 : w2.cell? ⟨w.heap.size, 3, none⟩ = some (.int .u32 (U (st 3))) := S2.cell 3 (by omega)
  have c4 : w2.cell? ⟨w.heap.size, 4, none⟩ = some (.int .u32 (U (st 4))) := S2.cell 4 (by omega)
  have c5 : w2.cell? ⟨w.heap.size, 5, none⟩ = some (.int .u32 (U (st 5))) := S2.cell 5 (by omega)
  have c6 : w2.cell? ⟨w.heap.size, 6, none⟩ = some (.int .u32 (U (st 6))) := S2.cell 6 (by omega)
  have c7 : w2.cell? ⟨w.heap.size, 7, none⟩ = some (.int .u32 (U (st 7))) := S2.cell 7 (by omega)
  go_quiet (fail)
  clear c0 c1 c2 c3 c4 c5 c6 c7
  go_wp2
  go_loopw [6, 7, 8, 9, 10, 11, 12, 13, 35] (fun va vb vc vd ve vf vg vh i wr => ∃ (k : Nat) (s : St), k ≤ 64 ∧ i = .int .i64 k ∧ s = rnds (sch (wd f)) (stOf st) k ∧
      va = .int .u32 (U s.a) ∧ vb = .int .u32 (U s.b) ∧ vc = .int .u32 (U s.c) ∧ vd = .int .u32 (U s.d) ∧ ve = .int .u32 (U s.e) ∧ vf = .int .u32 (U s.f) ∧ vg = .int .u32 (U s.g) ∧ vh = .int .u32 (U s.h) ∧
      Blk wr w.heap.size 31 8 (wv st) ∧ Blk wr (w.heap.size + 1) 31 8 (fun _ => .int .u32 0) ∧ Blk wr w1.heap.size 58 64 (wv (sch (wd f))) ∧ Below w.heap.size w wr ∧ (∀ i, i < 64 → wr.cell? ⟨0, i, none⟩ = some (wv kk i)))
    (fun _ _ _ _ _ _ _ _ i _ => 64 - (intOf i).toNat)
  case atStart => exact ⟨0, stOf st, by omega, rfl, rfl, rfl, rfl, rfl, rfl, rfl, rfl, rfl, rfl, S2.drewN _, R2.drewN _, W2.drewN _, below_drewN L2 _, hk2⟩
  case round =>
    clear S2 R2 L2 W2 hk2
    obtain ⟨k, s, hkk, rfl, hs, rfl, rfl, rfl, rfl, rfl, rfl, rfl, rfl, S2, R2, W2, L2, hk2⟩ := hrel
    have Hs := Lib.hid hs
    clear hs
    by_cases hlt : k < 64
    · have ck : wr.cell? ⟨0, k, none⟩ = some (.int .u32 (U (kk k))) := hk2 k hlt
      have cw : wr.cell? ⟨w1.heap.size, k, none⟩ = some (.int .u32 (U (sch (wd f) k))) := W2.cell k hlt
      have zk : (0 : Int) ≤ (k : Int) := by omega
      have yk : (k : Int) < 64 := by omega
      have Hk := Lib.hid hk2
      clear hk2
      go_wp2
      go_quiet ((go_at_call 33; exact Calls.quiet_of_same ((bS1_any _ _).mono fun e w' h => ⟨h.1, h.2.symm⟩)))
      go_wp2_with (go_at_call 34; refine (bS0_any _ _).mono ?_; rintro e w' ⟨rfl, rfl⟩)
      go_roundw
      case rel =>
        refine ⟨k + 1, rnd (sch (wd f)) k s, by omega, by go_num, ?_, rfl, rfl, rfl, rfl, rfl, rfl, rfl, rfl, S2.drewN _, R2.drewN _, W2.drewN _, below_drewN L2 _, Hk.out⟩
        have := Hs.out
        rw [this]; rfl
      case measure => simp [intOf]; omega
    · have e : Hid (k = 64) := by show k = 64; omega
      have c0 : wr.cell? ⟨w.heap.size, 0, none⟩ = some (.int .u32 (U (st 0))) := S2.cell 0 (by omega)
      have c1 : wr.cell? ⟨w.heap.size, 1, none⟩ = some (.int .u32 (U (st 1))) := S2.cell 1 (by omega)
      have c2 : wr.cell? ⟨w.heap.size, 2, none⟩ = some (.int .u32 (U (st 2))) := S2.cell 2 (by omega)
      have c3 : wr.cell? ⟨w.heap.size, 3, none⟩ = some (.int .u32 (U (st 3))) := S2.cell 3 (by omega)
      have c4 : wr.cell? ⟨w.heap.size, 4, none⟩ = some (.int .u32 (U (st 4))) := S2.cell 4 (by omega)
      have c5 : wr.cell? ⟨w.heap.size, 5, none⟩ = some (.int .u32 (U (st 5))) := S2.cell 5 (by omega)
      have c6 : wr.cell? ⟨w.heap.size, 6, none⟩ = some (.int .u32 (U (st 6))) := S2.cell 6 (by omega)
      have c7 : wr.cell? ⟨w.heap.size, 7, none⟩ = some (.int .u32 (U (st 7))) := S2.cell 7 (by omega)
      have Hk := Lib.hid hk2
      clear hk2
      go_wp2_with (refine wpList_store_blk rfl 31 (.tmp 4) (.tmp 118) rfl (w.heap.size + 1) 8 (fun i => .int .u32 (U (st i + ofSt s i))) (fun _ => .int .u32 0) rfl rfl 31 R2 sz31 (fun _ _ => rfl) ?_)
      have R3 := R2.setRow (fun i => .int .u32 (U (st i + ofSt s i)))
      have L3 := below_setRow L2 (Nat.le_succ _) (arr 8 (fun i => .int .u32 (U (st i + ofSt s i))))
      generalize wr.setRow (w.heap.size + 1) (arr 8 (fun i => .int .u32 (U (st i + ofSt s i)))) = w3 at R3 L3 ⊢
      refine bodyPost_ret (v := .agg (arr 8 (fun i => .int .u32 (U (st i + ofSt s i))))) (results_blk rfl _ _ (w.heap.size + 1) 31 8 _ R3 _ rfl ty31 rfl sz31) rfl ⟨?_, L3⟩
      have hk64 : k = 64 := e.out
      subst hk64
      have hs := Hs.out
      subst hs
      exact congrArg (fun a => Ending.returned (.agg a)) (arr_congr fun i hi => rfl)
end Go.Proofs.YtnfhnkplkbpmpaaDoor
