import Derived.Test.YtlbclfponongbaaGreatDoorQ5
import Derived.Test.YtlbclfponongbaaGreatDoorQ7
/- The document's answer: whether an object may be. -/
namespace Go.Proofs.YtlbclfponongbaaGreatDoor
open Go.RowKit Classical
theorem qrow_one {w : World} {v : Value} {m n : Nat} {c : Nat → Value} (h : Row w v m c n) : v.oneCell' = true := by
  obtain ⟨ad, cap, rfl, _⟩ := row_addr h
  rfl
set_option maxHeartbeats 2000000 in
set_option maxRecDepth 100000 in
theorem qright_any (k : Int) (l : List UInt8) (w : World) :
    Calls Tryz.prog 10 #[.agg #[.int .i64 k, .string (bs l)]] w fun e w' => e = .returned (.bool (decide (objOk k l))) ∧ Below w.heap.size w w' := by
  have hz := bs_size l
  have L0 : Hid (Below w.heap.size w (w.alloc (.cells #[.int .i64 k, .string (bs l)] 23))) := (Below.refl _ _).alloc (Nat.le_refl _) _
  have c0 : (w.alloc (.cells #[.int .i64 k, .string (bs l)] 23)).cell? ⟨w.heap.size, 0, none⟩ = some (.int .i64 k) := cell_of_row _ _ _ _ _ _ (heap_alloc_new _ _)
  have c1 : (w.alloc (.cells #[.int .i64 k, .string (bs l)] 23)).cell? ⟨w.heap.size, 1, none⟩ = some (.string (bs l)) := cell_of_row _ _ _ _ _ _ (heap_alloc_new _ _)
  have CE : Hid (l.length ≤ 1000000 → ∀ W, Calls Tryz.prog 17 #[.string (bs l)] W fun e w' => ∃ v, e = .returned (.tuple #[v, .bool (decide (isTree l))]) ∧ Below W.heap.size W w') := fun h W => (qentries_any l W h).mono fun e w' ⟨_, _, v, h1, _, _, _, h2⟩ => ⟨v, h1, h2⟩
  have CC : Hid (l.length ≤ 1000000 → ∀ W, Calls Tryz.prog 19 #[.string (bs l)] W fun e w' => ∃ t v s, v.oneCell' = true ∧ e = .returned (.tuple #[.agg (arr 34 (cv t v s)), .bool (decide (isCom l))]) ∧ Below W.heap.size W w') := fun h W => (qcommit_any l W h).mono fun e w' ⟨c, v, h1, h3, _, _, h2⟩ => ⟨_, v, _, qrow_one h3, h1, h2⟩
  by_cases hl : l.length ≤ 4096
  · have s1 : ((bs l).size : Int) ≤ 4096 := by omega
    have E2 : k = 2 → decide (objOk k l) = decide (isTree l) := fun h => decide_eq_decide.2 ⟨fun g => by
        rcases g.2 with g | ⟨_, g⟩ | ⟨g, _⟩
        · omega
        · exact g
        · omega, fun g => ⟨hl, .inr (.inl ⟨h, g⟩)⟩⟩
    have E3 : k = 3 → decide (objOk k l) = decide (isCom l) := fun h => decide_eq_decide.2 ⟨fun g => by
        rcases g.2 with g | ⟨g, _⟩ | ⟨_, g⟩
        · omega
        · omega
        · exact g, fun g => ⟨hl, .inr (.inr ⟨h, g⟩)⟩⟩
    have E1 : k ≠ 2 → k ≠ 3 → decide (objOk k l) = (k == 1) := fun h2 h3 => by
      by_cases h1 : k = 1
      · rw [decide_eq_true (show objOk k l from ⟨hl, .inl h1⟩)]; simp [h1]
      · rw [decide_eq_false (show ¬ objOk k l from fun g => by
          rcases g.2 with g | ⟨g, _⟩ | ⟨g, _⟩
          · exact h1 g
          · exact h2 g
          · exact h3 g)]
        simp [h1]
    by_cases k2 : k = 2
    · have e := E2 k2
      rw [e]
      subst k2
      generalize decide (isTree l) = r at CE
      have CE' := Lib.hid (CE.out (by omega))
      generalize bs l = sb at c0 c1 L0 s1 CE' ⊢
      clear hz E1 E2 E3 CE CC hl e
      go_enter Tryz.func10, Tryz.ntmps10
      go_wp2_with fail
      refine (CE'.out _).mono ?_
      rintro e w2 ⟨v, rfl, B2⟩
      have L2 := Lib.hid (L0.out.trans (B2.mono L0.out.size))
      clear B2 CE' c0 c1 L0
      go_wp2
      go_ret
      exact ⟨rfl, L2.out⟩
    · by_cases k3 : k = 3
      · have e := E3 k3
        rw [e]
        subst k3
        generalize decide (isCom l) = r at CC
        have CC' := Lib.hid (CC.out (by omega))
        generalize bs l = sb at c0 c1 L0 s1 CC' ⊢
        clear hz E1 E2 E3 CE CC hl e
        go_enter Tryz.func10, Tryz.ntmps10
        go_wp2_with fail
        refine (CC'.out _).mono ?_
        rintro e w2 ⟨t, v, s, hv, rfl, B2⟩
        have L2 := Lib.hid (L0.out.trans (B2.mono L0.out.size))
        have HV := Lib.hid hv
        have L3 := Lib.hid (L2.out.alloc L2.out.size (.cells (arr 34 (cv t v s)) 37))
        clear B2 CC' c0 c1 L0 hv L2
        go_upto_region 8 with (refine wpList_store_blk rfl 37 (.tmp 5) (.tmp 28) rfl w2.heap.size 34 (cv t v s) zc rfl rfl 37 (Blk.newAt _ (heap_alloc_new _ _) rfl) szCommit (fun i _ => cv_one _ _ HV.out _ i) ?_)
        rw [World.setRow_alloc_new]
        generalize w2.alloc (.cells (arr 34 (cv t v s)) 37) = w3 at L3 ⊢
        go_wp2
        go_ret
        exact ⟨rfl, L3.out⟩
      · have e := E1 k2 k3
        rw [e]
        have t2 : (k == 2) = false := by simpa using k2
        have t3 : (k == 3) = false := by simpa using k3
        generalize bs l = sb at c0 c1 L0 s1 ⊢
        clear hz E1 E2 E3 CE CC hl k2 k3 e
        go_enter Tryz.func10, Tryz.ntmps10
        go_wp2
        go_ret
        exact ⟨rfl, L0.out⟩
  · have s1 : (4096 : Int) < ((bs l).size : Int) := by omega
    rw [decide_eq_false (show ¬ objOk k l from fun h => hl h.1)]
    generalize bs l = sb at c0 c1 L0 s1 ⊢
    clear hz hl CE CC
    go_enter Tryz.func10, Tryz.ntmps10
    go_wp2
    go_ret
    exact ⟨rfl, L0.out⟩
end Go.Proofs.YtlbclfponongbaaGreatDoor
