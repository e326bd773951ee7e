import Derived.Test.YtnfhnkplkbpmpaaDoorW3
import Derived.Test.YtnfhnkplkbpmpaaDoorPd
namespace Go.Proofs.YtnfhnkplkbpmpaaDoor
open Go.RowKit
theorem sz35 : (Tryd.prog.info? 35).map (·.size) = some 73 := by kernel_rfl
set_option maxHeartbeats 1000000 in
set_option maxRecDepth 100000 in
theorem first_any (w : World) :
    Calls Tryd.prog 31 #[] w fun e w' => e = .returned (.agg (arr 8 (wv iv))) ∧ Below w.heap.size w w' := by
  go_enter Tryd.func31, Tryd.ntmps31
  go_wp2
  refine bodyPost_ret (v := .agg (arr 8 (wv iv))) (results_blk rfl _ _ w.heap.size 31 8 (wv iv) (Blk.newAt _ (heap_alloc_new _ _) rfl) _ rfl ty31 rfl sz31) rfl ⟨rfl, (Below.refl _ _).alloc (Nat.le_refl _) _⟩
set_option maxHeartbeats 1000000 in
set_option maxRecDepth 100000 in
theorem begin_any (st : Nat → W32) (blk : Nat → UInt8) (n hb : Nat) (w : World) (hn : n < 1099511627776) (hB : Blk w hb 35 73 (hv st blk n)) :
    Calls Tryd.prog 26 #[.pointer (some ⟨hb, 0, none⟩)] w fun e w' => e = .returned (.tuple #[]) ∧ Blk w' hb 35 73 (hv (if n = 0 then iv else st) blk n) ∧ w.grownBy w' (some hb) := by
  have cn : w.cell? ⟨hb, 72, none⟩ = some (.int .u64 (n : Int)) := hB.cell 72 (by omega)
  have fn := hB.frozen 72
  by_cases h0 : n = 0
  · have b0 : ((n : Int) == 0) = true := by subst h0; rfl
    go_enter Tryd.func26, Tryd.ntmps26
    go_wp2_with fail
    refine (first_any _).mono ?_
    rintro e w1 ⟨rfl, hb1⟩
    have hB1 := hB.below hb1 hB.lt
    have g1 := grown_below hb1 (some hb)
    have e8 : (arr 8 (wv iv)).size = 8 := arr_size _ _
    have T := hB1.there 0 8 (by omega)
    rw [← e8] at T
    go_wp2_with (refine wpList_store_mid rfl 31 (.tmp 10) (.tmp 8) rfl hb 0 (arr 8 (wv iv)) rfl rfl T (by rw [arr_size]; exact sz31) (oneCell_arr fun _ _ => rfl) ?_)
    go_end0
    refine ⟨rfl, (hB1.setCells (arr 8 (wv iv)).toList 0).congr ?_, grown_trans g1 (setCells_grown hb _ 0 w1)⟩
    intro i hi
    by_cases h8 : i < 8
    · rw [if_pos (by simp [arr_size]; exact h8), List.getD_eq_getElem?_getD, Array.getElem?_toList, Nat.sub_zero, arr_get _ _ _ h8]
      simp [hv, h8, h0]
    · rw [if_neg (by simp [arr_size]; omega)]
      simp only [hv, if_neg h8, h0]
  · have b0 : ((n : Int) == 0) = false := beq_eq_false_iff_ne.2 (by omega)
    go_enter Tryd.func26, Tryd.ntmps26
    go_wp2_with fail
    go_end0
    exact ⟨rfl, hB, grown_refl _ _⟩
theorem ty30 : Tryd.prog.underlying 30 = some (.int .u32) := by kernel_rfl
theorem sz30 : (Tryd.prog.info? 30).map (·.size) = some 1 := by kernel_rfl
theorem ty26 : Tryd.prog.underlying 26 = some (.array 32 5) := by kernel_rfl
theorem sz26 : (Tryd.prog.info? 26).map (·.size) = some 32 := by kernel_rfl
set_option maxHeartbeats 1000000 in
set_option maxRecDepth 100000 in
theorem bytes_any (s : Nat → W32) (w : World) :
    Calls Tryd.prog 28 #[.agg (arr 8 (wv s))] w fun e w' => e = .returned (.agg (arr 32 (bv (sByte s)))) ∧ Below w.heap.size w w' := by
  have S0 : ∀ A B C, Blk (((w.alloc (.cells (arr 8 (wv s)) A)).alloc B).alloc C) w.heap.size A 8 (wv s) := fun A B C => Blk.alloc (Blk.newAt _ (heap_alloc2_old w _ _) rfl) _
  go_enter Tryd.func28, Tryd.ntmps28
  go_wp2_with (refine wpList_load_blk rfl 31 (.tmp 1) rfl w.heap.size rfl 31 8 (wv s) (S0 _ _ _) _ ty31 rfl sz31 ?_)
  clear S0
  go_loopw [8] (fun i wr => ∃ (k : Nat) (g : Nat → UInt8), k ≤ 8 ∧ i = .int .i64 k ∧ Blk wr (w.heap.size + 1 + 1) 26 32 (bv g) ∧ (∀ j, j < 4 * k → g j = sByte s j) ∧ Blk wr (w.heap.size + 1) 26 32 (bv (fun _ => 0)) ∧ Below w.heap.size w wr)
    (fun i _ => 8 - (intOf i).toNat)
  case atStart =>
    have e2 : ∀ A B, ((w.alloc A).alloc B).heap.size = w.heap.size + 1 + 1 := fun A B => by show ((w.heap.push A).push B).size = _; simp
    refine ⟨0, fun _ => 0, by omega, rfl, ?_, fun j hj => absurd hj (by omega), Blk.alloc (Blk.newAt _ (heap_alloc2_new w _ _) (by rfl)) _, (((Below.refl _ _).alloc (Nat.le_refl _) _).alloc (by simp) _).alloc (by rw [e2]; omega) _⟩
    rw [← e2 _ _]
    exact Blk.newAt _ (heap_alloc_new _ _) (by rfl)
  case round =>
    obtain ⟨k, g, hk, rfl, hB, hg, hR, hbl⟩ := hrel
    have G := Lib.hid hg
    clear hg
    by_cases hlt : k < 8
    · have ix : ∀ w, (Instr.index 31 (.agg (arr 8 (wv s))) (.int .i64 (k : Int))).run Tryd.prog w = .ok (.int .u32 (U (s k))) w := fun w => run_index_arr w 31 30 8 (wv s) .i64 k ty31 sz30 ty30 hlt
      go_wp2
      clear ix
      go_loopw [12] (fun i wr => ∃ (m : Nat) (g : Nat → UInt8), m ≤ 4 ∧ i = .int .i64 m ∧ Blk wr (w.heap.size + 1 + 1) 26 32 (bv g) ∧ (∀ j, j < 4 * k + m → g j = sByte s j) ∧ Blk wr (w.heap.size + 1) 26 32 (bv (fun _ => 0)) ∧ Below w.heap.size w wr)
        (fun i _ => 4 - (intOf i).toNat)
      case atStart => exact ⟨0, g, by omega, rfl, hB, G.out, hR, hbl⟩
      case round =>
        clear hB G hR hbl g
        obtain ⟨m, g, hm, rfl, hB, hg, hR, hbl⟩ := hrel
        have G := Lib.hid hg
        clear hg
        by_cases hmt : m < 4
        · have cB := hB.cell (4 * k + m) (by omega)
          have fB := hB.frozen (4 * k + m)
          go_wp2
          go_roundw
          case rel =>
            refine ⟨m + 1, fun j => if j = 4 * k + m then sByte s (4 * k + m) else g j, by omega, by go_num, ?_, ?_, hR.setOther _ _ (by simp), hbl.setCell (by simp <;> omega) _⟩
            · refine (hB.set (4 * k + m) _).congr fun i hi => ?_
              by_cases e : i = 4 * k + m
              · subst e
                simp only [if_pos, bv]
                rw [sByte_val s k m hmt]
              · simp [e, bv]
            · intro j hj
              by_cases e : j = 4 * k + m
              · subst e; simp
              · simp only [if_neg e]; exact G.out j (by omega)
          case measure => simp [intOf]; omega
        · go_wp2
          go_roundw
          case rel => exact ⟨k + 1, g, by omega, by go_num, hB, fun j hj => G.out j (by omega), hR, hbl⟩
          case measure => simp [intOf]; omega
    · have e : Hid (k = 8) := by show k = 8; omega
      have hR2 := hR.setRow (bv g)
      have hb2 := below_setRow hbl (Nat.le_succ _) (arr 32 (bv g))
      go_wp2_with (first | (refine wpList_load_blk rfl 26 (.tmp 3) rfl (w.heap.size + 1 + 1) rfl 26 32 (bv g) hB _ ty26 rfl sz26 ?_) | (refine wpList_store_blk rfl 26 (.tmp 2) (.tmp 28) rfl (w.heap.size + 1) 32 (bv g) (bv (fun _ => 0)) rfl rfl 26 hR sz26 (fun _ _ => rfl) ?_))
      generalize wr.setRow (w.heap.size + 1) (arr 32 (bv g)) = w3 at hR2 hb2 ⊢
      refine bodyPost_ret (v := .agg (arr 32 (bv g))) (results_blk rfl _ _ (w.heap.size + 1) 26 32 _ hR2 _ rfl ty26 rfl sz26) rfl ⟨?_, hb2⟩
      have hk8 := e.out
      exact congrArg (fun a => Ending.returned (.agg a)) (arr_congr fun i hi => by unfold bv; rw [G.out i (by omega)])
end Go.Proofs.YtnfhnkplkbpmpaaDoor
