import Derived.Test.YtnfhnkplkbpmpaaDoorW1
import Derived.Test.YtnfhnkplkbpmpaaDoorPb
import Derived.Deep.QuietTactic
import Derived.BigQuiet
import Derived.BigRegion
import Derived.StillTailTactics
import Derived.Deep.Cut
namespace Go.Proofs.YtnfhnkplkbpmpaaDoor
open Go.RowKit
attribute [local go_sem] U_xor U_and U_or U_add U_addm U_shl U_shr U_shlm U_shrm U_w8 U_shl24 U_shl16 U_shl8
theorem ty58 : Tryd.prog.underlying 58 = some (.array 64 30) := by kernel_rfl
theorem sz58 : (Tryd.prog.info? 58).map (·.size) = some 64 := by kernel_rfl
set_option maxHeartbeats 4000000 in
set_option maxRecDepth 100000 in
theorem words_any (hb off : Nat) (f : Nat → UInt8) (w : World) 
    (hc : ∀ i, i < 64 → w.cell? ⟨hb, off + i, none⟩ = some (.int .u8 ((f i).toNat : Int))) (hlt : hb < w.heap.size) :
    Calls Tryd.prog 32 #[.pointer (some ⟨hb, off, none⟩)] w fun e w' => e = .returned (.agg (arr 64 (fun j => .int .u32 (U (sch (wd f) j))))) ∧ Below w.heap.size w w' := by
  go_enter Tryd.func32, Tryd.ntmps32
  go_wp2
  go_loopw [6] (fun i wr => ∃ (k : Nat) (g : Nat → W32), k ≤ 16 ∧ i = .int .i64 k ∧ Blk wr (w.heap.size + 1) 58 64 (fun j => .int .u32 (U (g j))) ∧ (∀ j, j < k → g j = wd f j) ∧
     Blk wr w.heap.size 58 64 (fun _ => .int .u32 0) ∧ Below w.heap.size w wr) (fun i _ => 16 - (intOf i).toNat)
  case atStart => exact ⟨0, fun _ => 0#32, by omega, rfl, Blk.newAt _ (heap_alloc2_new w _ _) (by rfl), fun j hj => absurd hj (by omega), Blk.newAt _ (heap_alloc2_old w _ _) (by rfl), ((Below.refl _ _).alloc (Nat.le_refl _) _).alloc (by simp) _⟩
  case round =>
    obtain ⟨k, g, hk, rfl, hB, hg, hR, hbl⟩ := hrel
    by_cases hlt : k < 16
    · have c0 : wr.cell? ⟨hb, off + 4 * k, none⟩ = some (.int .u8 ((f (4*k)).toNat : Int)) := by rw [hbl.cell (by assumption)]; exact hc _ (by omega)
      have c1 : wr.cell? ⟨hb, off + (4 * k + 1), none⟩ = some (.int .u8 ((f (4*k+1)).toNat : Int)) := by rw [hbl.cell (by assumption)]; exact hc _ (by omega)
      have c2 : wr.cell? ⟨hb, off + (4 * k + 2), none⟩ = some (.int .u8 ((f (4*k+2)).toNat : Int)) := by rw [hbl.cell (by assumption)]; exact hc _ (by omega)
      have c3 : wr.cell? ⟨hb, off + (4 * k + 3), none⟩ = some (.int .u8 ((f (4*k+3)).toNat : Int)) := by rw [hbl.cell (by assumption)]; exact hc _ (by omega)
      have f0 := hB.frozen k
      have cB := hB.cell k (by omega)
      clear hc
      go_wp2
      have a0 : IntKind.i64.wrap (4 * (k : Int)) = 4 * k := IntWalk.i64_in _ (by omega)
      have a1 : IntKind.i64.wrap (4 * (k : Int) + 1) = 4 * k + 1 := IntWalk.i64_in _ (by omega)
      have a2 : IntKind.i64.wrap (4 * (k : Int) + 2) = 4 * k + 2 := IntWalk.i64_in _ (by omega)
      have a3 : IntKind.i64.wrap (4 * (k : Int) + 3) = 4 * k + 3 := IntWalk.i64_in _ (by omega)
      have z0 : (0 : Int) ≤ 4 * (k : Int) := by omega
      have z1 : (0 : Int) ≤ 4 * (k : Int) + 1 := by omega
      have z2 : (0 : Int) ≤ 4 * (k : Int) + 2 := by omega
      have z3 : (0 : Int) ≤ 4 * (k : Int) + 3 := by omega
      have y0 : 4 * (k : Int) < 64 := by omega
      have y1 : 4 * (k : Int) + 1 < 64 := by omega
      have y2 : 4 * (k : Int) + 2 < 64 := by omega
      have y3 : 4 * (k : Int) + 3 < 64 := by omega
      have zk : (0 : Int) ≤ (k : Int) := by omega
      have yk : (k : Int) < 64 := by omega
      have t0 : (4 * (k : Int)).toNat = 4 * k := by omega
      have t1 : (4 * (k : Int) + 1).toNat = 4 * k + 1 := by omega
      have t2 : (4 * (k : Int) + 2).toNat = 4 * k + 2 := by omega
      have t3 : (4 * (k : Int) + 3).toNat = 4 * k + 3 := by omega
      go_still_tail 39, (by kernel_rfl)
      clear a0 a1 a2 a3 t0 t1 t2 t3 c0 c1 c2 c3 cB f0
      change wpList _ _ _ _ _ wr.drew
      have hB2 := hB.drew
      have hR2 := hR.drew
      have hbl2 := hbl.drew
      generalize wr.drew = w2 at hB2 hR2 hbl2 ⊢
      have f2 := hB2.frozen k
      have c2 := hB2.cell k (by omega)
      go_wp2
      go_roundw
      case rel =>
        refine ⟨k + 1, fun j => if j = k then wd f k else g j, by omega, by go_num, ?_, ?_, ?_, ?_⟩
        · refine (hB2.set k _).congr fun i hi => ?_
          by_cases e : i = k
          · subst e; simp [wd]
          · simp [e]
        · intro j hj
          by_cases e : j = k
          · subst e; simp
          · simp [e]; exact hg j (by omega)
        · exact hR2.setOther _ _ (by simp)
        · exact hbl2.setCell (by simp) _
      case measure => simp [intOf]; omega
    · have H : Hid (∀ j, j < 16 → g j = tab (wd f) 0 j) := fun j hj => hg j (by omega)
      clear hg hc
      go_wp2
      go_loopw [5] (fun i wr => ∃ (k : Nat) (g : Nat → W32), 16 ≤ k ∧ k ≤ 64 ∧ i = .int .i64 k ∧ Blk wr (w.heap.size + 1) 58 64 (fun j => .int .u32 (U (g j))) ∧ (∀ j, j < k → g j = tab (wd f) (k - 16) j) ∧
          Blk wr w.heap.size 58 64 (fun _ => .int .u32 0) ∧ Below w.heap.size w wr) (fun i _ => 64 - (intOf i).toNat)
      case atStart => exact ⟨16, g, by omega, by omega, rfl, hB, H.out, hR, hbl⟩
      case round =>
        clear hB H hR hbl g
        obtain ⟨k, g, hk16, hk, rfl, hB, hg, hR, hbl⟩ := hrel
        by_cases hlt : k < 64
        · have hB2 := hB.drew
          have hR2 := hR.drew
          have hbl2 := hbl.drew
          have c0 := hB.cell (k - 2) (by omega)
          have c1 := hB.cell (k - 7) (by omega)
          have c2 := hB.cell (k - 15) (by omega)
          have c3 := hB.cell (k - 16) (by omega)
          have a0 : IntKind.i64.wrap ((k : Int) - 2) = k - 2 := IntWalk.i64_in _ (by omega)
          have a1 : IntKind.i64.wrap ((k : Int) - 7) = k - 7 := IntWalk.i64_in _ (by omega)
          have a2 : IntKind.i64.wrap ((k : Int) - 15) = k - 15 := IntWalk.i64_in _ (by omega)
          have a3 : IntKind.i64.wrap ((k : Int) - 16) = k - 16 := IntWalk.i64_in _ (by omega)
          have z0 : (0 : Int) ≤ (k : Int) - 2 := by omega
          have z1 : (0 : Int) ≤ (k : Int) - 7 := by omega
          have z2 : (0 : Int) ≤ (k : Int) - 15 := by omega
          have z3 : (0 : Int) ≤ (k : Int) - 16 := by omega
          have z4 : (0 : Int) ≤ (k : Int) := by omega
          have x0 : (2 : Int) ≤ (k : Int) := by omega
          have x1 : (7 : Int) ≤ (k : Int) := by omega
          have x2 : (15 : Int) ≤ (k : Int) := by omega
          have x3 : (16 : Int) ≤ (k : Int) := by omega
          have y0 : (k : Int) - 2 < 64 := by omega
          have y1 : (k : Int) - 7 < 64 := by omega
          have y2 : (k : Int) - 15 < 64 := by omega
          have y3 : (k : Int) - 16 < 64 := by omega
          have y4 : (k : Int) < 64 := by omega
          have t0 : ((k : Int) - 2).toNat = k - 2 := by omega
          have t1 : ((k : Int) - 7).toNat = k - 7 := by omega
          have t2 : ((k : Int) - 15).toNat = k - 15 := by omega
          have t3 : ((k : Int) - 16).toNat = k - 16 := by omega
          have G : Hid (∀ j, j < k → g j = tab (wd f) (k - 16) j) := hg
          clear hg
          go_wp2
          go_still_tail 23, (by kernel_rfl)
          still_call ((sS1_any _ _).mono fun e w' h => ⟨h.1, h.2.symm⟩)
          repeat still_step
          still_call ((sS0_any _ _).mono fun e w' h => ⟨h.1, h.2.symm⟩)
          repeat still_step
          try refine wpStill_nil ?_
          clear a0 a1 a2 a3 t0 t1 t2 t3 c0 c1 c2 c3
          change wpList _ _ _ _ _ wr.drew
          generalize wr.drew = w2 at hB2 hR2 hbl2 ⊢
          have f2 := hB2.frozen k
          have c2 := hB2.cell k (by omega)
          go_wp2
          go_roundw
          case rel =>
            refine ⟨k + 1, fun j => if j = k then sS1 (g (k - 2)) + g (k - 7) + sS0 (g (k - 15)) + g (k - 16) else g j, by omega, by omega, by go_num, ?_, ?_, ?_, ?_⟩
            · refine (hB2.set k _).congr fun i hi => ?_
              by_cases e : i = k
              · subst e; simp
              · simp [e]
            · exact tab_step _ _ _ hk16 G.out
            · exact hR2.setOther _ _ (by simp)
            · exact hbl2.setCell (by simp) _
          case measure => simp [intOf]; omega
        · have e : Hid (k = 64) := by show k = 64; omega
          have G : Hid (∀ j, j < k → g j = tab (wd f) (k - 16) j) := hg
          clear hg
          go_upto_region 11 with fail
          apply wp_region_lit
          refine wpList_load_blk rfl 58 (.tmp 3) rfl (w.heap.size + 1) rfl 58 64 (fun j => .int .u32 (U (g j))) hB _ ty58 rfl sz58 ?_
          refine wpList_store_blk rfl 58 (.tmp 2) (.tmp 76) rfl w.heap.size 64 (fun j => .int .u32 (U (g j))) (fun _ => .int .u32 0) rfl rfl 58 hR sz58 (fun _ _ => rfl) ?_
          have hR2 := hR.setRow (fun j => .int .u32 (U (g j)))
          have hb2 := below_setRow hbl (Nat.le_refl _) (arr 64 (fun j => .int .u32 (U (g j))))
          generalize wr.setRow w.heap.size (arr 64 (fun j => .int .u32 (U (g j)))) = w3 at hR2 hb2 ⊢
          go_wp2
          refine bodyPost_ret (v := .agg (arr 64 (fun j => .int .u32 (U (g j))))) (results_blk rfl _ _ w.heap.size 58 64 _ hR2 _ rfl ty58 rfl sz58) rfl ⟨?_, hb2⟩
          have hk64 : k = 64 := e.out
          subst hk64
          exact congrArg (fun a => Ending.returned (.agg a)) (arr_congr fun i hi => by rw [G.out i hi]; rfl)
end Go.Proofs.YtnfhnkplkbpmpaaDoor
