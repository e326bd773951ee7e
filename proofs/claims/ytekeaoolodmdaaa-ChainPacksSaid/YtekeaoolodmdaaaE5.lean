import Derived.Test.YtekeaoolodmdaaaE3
import Derived.Lib.Strings
/- Which pieces are right, as the program tells it. -/
namespace Go.Proofs.Ytekeaoolodmdaaa
set_option maxRecDepth 100000
open Go.RowKit
theorem FB_1 : FB 1 = 4607182418800017408 := by
  have h : FB 1 = Ieee.double.word false (rung 1) := FB_word 1 (by decide)
  rw [h]; decide +kernel
theorem FB_4099 : FB 4099 = 4661228912863346688 := by
  have h : FB 4099 = Ieee.double.word false (rung 4099) := FB_word 4099 (by decide)
  rw [h]; decide +kernel
theorem sub_B (b n : Nat) (hb : b ≤ 4099) (hn : n ≤ 1099511627775) (w : World) : (binOp .sub 77 (.float .f64 (FB (b : Int))) (.float .f64 (FB (n : Int)))).run Try.prog w = .ok (.float .f64 (FB ((b : Int) - n))) w :=
  run_float_arith w .sub 77 .f64 _ _ _ (sub_FB b n (by omega) (by omega) (by omega) (by omega))
theorem toList_bs (l : List UInt8) : (bs l).toList = l := by
  rw [Lib.toList_data]; simp [bs]
theorem bs_nil (l : List UInt8) : l = [] ↔ bs l = ⟨#[]⟩ := ⟨fun h => by rw [h]; rfl, fun h => bs_inj (h.trans rfl)⟩
theorem below_drewN' {B : Nat} {a w : World} (h : Below B a w) (n : Nat) : Below B a (w.drewN n) := h.trans ⟨rfl, rfl, rfl, Nat.le_refl _, fun _ _ => rfl⟩
set_option maxHeartbeats 1000000 in
theorem right_raw (b : Nat) (x : Pz) (w : World) (hs : small x) (c : x.raw) (h1 : 1 ≤ x.t.length) (h2 : x.t.length ≤ 4099) : Calls Try.prog 59 #[.int .i64 (b : Int), pv x] w fun e w' => e = .returned (.bool true) ∧ Below w.heap.size w w' := by
  have C1 : Hid (∀ W, Calls Try.prog 62 #[pv x] W fun e w' => e = .returned (.bool (decide (¬ x.raw))) ∧ Below W.heap.size W w') := fun W => iscopy_any x W hs
  rw [decide_eq_false (show ¬ ¬ x.raw from fun h => h c)] at C1
  have hz := bs_size x.t
  unfold pv at C1 ⊢
  generalize bs x.t = sb at *
  generalize cpv x = cv at *
  have L0 := Lib.hid ((Below.refl w.heap.size w).alloc (Nat.le_refl _) (.cells #[cv, .string sb] 76))
  have t1 : (1 : Int) ≤ (sb.size : Int) := by omega
  have t2 : (sb.size : Int) ≤ 4099 := by omega
  have hq : True := trivial
  clear hs c hz hq h1 h2
  go_enter Try.func59, Try.ntmps59
  go_wp2_with fail
  refine (C1.out _).mono ?_
  rintro e w1 ⟨rfl, B1⟩
  have c1 : w1.cell? ⟨w.heap.size, 1, none⟩ = some (.string sb) := by
    rw [B1.cell (by simp)]; exact cell_of_row _ _ _ _ _ _ (heap_alloc_new _ _)
  have L1 := Lib.hid (L0.out.trans (B1.mono (by simp)))
  clear B1 C1
  go_wp2
  go_ret
  exact ⟨rfl, L1.out⟩
set_option maxHeartbeats 1000000 in
theorem right_few (b : Nat) (x : Pz) (w : World) (hs : small x) (c : x.raw) (h1 : ¬ 1 ≤ x.t.length) : Calls Try.prog 59 #[.int .i64 (b : Int), pv x] w fun e w' => e = .returned (.bool false) ∧ Below w.heap.size w w' := by
  have C1 : Hid (∀ W, Calls Try.prog 62 #[pv x] W fun e w' => e = .returned (.bool (decide (¬ x.raw))) ∧ Below W.heap.size W w') := fun W => iscopy_any x W hs
  rw [decide_eq_false (show ¬ ¬ x.raw from fun h => h c)] at C1
  have hz := bs_size x.t
  unfold pv at C1 ⊢
  generalize bs x.t = sb at *
  generalize cpv x = cv at *
  have L0 := Lib.hid ((Below.refl w.heap.size w).alloc (Nat.le_refl _) (.cells #[cv, .string sb] 76))
  have t1 : (sb.size : Int) < 1 := by omega
  have hq : True := trivial
  clear hs c hz hq
  go_enter Try.func59, Try.ntmps59
  go_wp2_with fail
  refine (C1.out _).mono ?_
  rintro e w1 ⟨rfl, B1⟩
  have c1 : w1.cell? ⟨w.heap.size, 1, none⟩ = some (.string sb) := by
    rw [B1.cell (by simp)]; exact cell_of_row _ _ _ _ _ _ (heap_alloc_new _ _)
  have L1 := Lib.hid (L0.out.trans (B1.mono (by simp)))
  clear B1 C1
  go_wp2
  go_ret
  exact ⟨rfl, L1.out⟩
set_option maxHeartbeats 1000000 in
theorem right_many (b : Nat) (x : Pz) (w : World) (hs : small x) (c : x.raw) (h1 : 4099 < x.t.length) : Calls Try.prog 59 #[.int .i64 (b : Int), pv x] w fun e w' => e = .returned (.bool false) ∧ Below w.heap.size w w' := by
  have C1 : Hid (∀ W, Calls Try.prog 62 #[pv x] W fun e w' => e = .returned (.bool (decide (¬ x.raw))) ∧ Below W.heap.size W w') := fun W => iscopy_any x W hs
  rw [decide_eq_false (show ¬ ¬ x.raw from fun h => h c)] at C1
  have hz := bs_size x.t
  unfold pv at C1 ⊢
  generalize bs x.t = sb at *
  generalize cpv x = cv at *
  have L0 := Lib.hid ((Below.refl w.heap.size w).alloc (Nat.le_refl _) (.cells #[cv, .string sb] 76))
  have t1 : (1 : Int) ≤ (sb.size : Int) := by omega
  have t2 : decide ((sb.size : Int) ≤ 4099) = false := decide_eq_false (by omega)
  have hq : True := trivial
  clear hs c hz hq
  go_enter Try.func59, Try.ntmps59
  go_wp2_with fail
  refine (C1.out _).mono ?_
  rintro e w1 ⟨rfl, B1⟩
  have c1 : w1.cell? ⟨w.heap.size, 1, none⟩ = some (.string sb) := by
    rw [B1.cell (by simp)]; exact cell_of_row _ _ _ _ _ _ (heap_alloc_new _ _)
  have L1 := Lib.hid (L0.out.trans (B1.mono (by simp)))
  clear B1 C1
  go_wp2
  go_ret
  exact ⟨rfl, L1.out⟩
set_option maxHeartbeats 1000000 in
theorem right_copy (b : Nat) (x : Pz) (w : World) (hb : b ≤ 4099) (hs : small x) (c : ¬ x.raw) (h0 : x.t = []) (h1 : 1 ≤ x.n ∧ x.n ≤ 4099) (h2 : x.p + x.n ≤ b) : Calls Try.prog 59 #[.int .i64 (b : Int), pv x] w fun e w' => e = .returned (.bool true) ∧ Below w.heap.size w w' := by
  have C1 : Hid (∀ W, Calls Try.prog 62 #[pv x] W fun e w' => e = .returned (.bool (decide (¬ x.raw))) ∧ Below W.heap.size W w') := fun W => iscopy_any x W hs
  rw [decide_eq_true c] at C1
  unfold small at hs
  have W1 : Hid (∀ W, _) := Lib.hid (within_any (x.n : Int) 1 4099 (hv := by omega) (hl := by decide) (hm := by decide))
  have W2 : Hid (∀ W, _) := Lib.hid (within_any (x.p : Int) 0 ((b : Int) - x.n) (hv := by omega) (hl := by decide) (hm := by omega))
  rw [FB_1, FB_4099] at W1
  rw [FB_0] at W2
  have hsub := sub_B b x.n hb hs.2
  have hfb : floatOfInt .f64 (b : Int) = FB (b : Int) := rfl
  have ht := (bs_nil x.t).1 h0
  rw [decide_eq_true (by omega)] at W1
  rw [decide_eq_true (by omega)] at W2
  unfold pv cpv at C1 ⊢
  generalize FB (x.p : Int) = P at *
  generalize FB (x.n : Int) = N at *
  generalize FB (b : Int) = B at *
  generalize FB ((b : Int) - x.n) = D at *
  generalize bs x.t = sb at *
  subst ht
  clear h0 h1 h2 hs c hb
  have L0 := Lib.hid ((Below.refl w.heap.size w).alloc (Nat.le_refl _) (.cells #[.complex .f64 P N, .string ⟨#[]⟩] 76))
  go_enter Try.func59, Try.ntmps59
  go_wp2_with fail
  refine (C1.out _).mono ?_
  rintro e w1 ⟨rfl, B1⟩
  have c0 : w1.cell? ⟨w.heap.size, 0, none⟩ = some (.complex .f64 P N) := by
    rw [B1.cell (by simp)]; exact cell_of_row _ _ _ _ _ _ (heap_alloc_new _ _)
  have c1 : w1.cell? ⟨w.heap.size, 1, none⟩ = some (.string ⟨#[]⟩) := by
    rw [B1.cell (by simp)]; exact cell_of_row _ _ _ _ _ _ (heap_alloc_new _ _)
  have L1 := Lib.hid (L0.out.trans (B1.mono (by simp)))
  clear B1 C1 L0
  go_wp2
  go_quiet (fail)
  go_wp2_with fail
  refine (W1.out _).mono ?_
  rintro e w2 ⟨rfl, rfl⟩
  go_wp2_with fail
  refine (W2.out _).mono ?_
  rintro e w3 ⟨rfl, rfl⟩
  go_wp2
  go_ret
  exact ⟨rfl, below_drewN' L1.out _⟩
set_option maxHeartbeats 1000000 in
theorem right_text (b : Nat) (x : Pz) (w : World) (hb : b ≤ 4099) (hs : small x) (c : ¬ x.raw) (h0 : ¬ x.t = []) : Calls Try.prog 59 #[.int .i64 (b : Int), pv x] w fun e w' => e = .returned (.bool false) ∧ Below w.heap.size w w' := by
  have C1 : Hid (∀ W, Calls Try.prog 62 #[pv x] W fun e w' => e = .returned (.bool (decide (¬ x.raw))) ∧ Below W.heap.size W w') := fun W => iscopy_any x W hs
  rw [decide_eq_true c] at C1
  unfold small at hs
  have W1 : Hid (∀ W, _) := Lib.hid (within_any (x.n : Int) 1 4099 (hv := by omega) (hl := by decide) (hm := by decide))
  have W2 : Hid (∀ W, _) := Lib.hid (within_any (x.p : Int) 0 ((b : Int) - x.n) (hv := by omega) (hl := by decide) (hm := by omega))
  rw [FB_1, FB_4099] at W1
  rw [FB_0] at W2
  have hsub := sub_B b x.n hb hs.2
  have hfb : floatOfInt .f64 (b : Int) = FB (b : Int) := rfl
  have ht : ¬ (bs x.t).toList = [] := by rw [toList_bs]; exact h0
  unfold pv cpv at C1 ⊢
  generalize FB (x.p : Int) = P at *
  generalize FB (x.n : Int) = N at *
  generalize FB (b : Int) = B at *
  generalize FB ((b : Int) - x.n) = D at *
  generalize bs x.t = sb at *
  clear h0 hs c hb W1 W2 hsub hfb
  have L0 := Lib.hid ((Below.refl w.heap.size w).alloc (Nat.le_refl _) (.cells #[.complex .f64 P N, .string sb] 76))
  go_enter Try.func59, Try.ntmps59
  go_wp2_with fail
  refine (C1.out _).mono ?_
  rintro e w1 ⟨rfl, B1⟩
  have c0 : w1.cell? ⟨w.heap.size, 0, none⟩ = some (.complex .f64 P N) := by
    rw [B1.cell (by simp)]; exact cell_of_row _ _ _ _ _ _ (heap_alloc_new _ _)
  have c1 : w1.cell? ⟨w.heap.size, 1, none⟩ = some (.string sb) := by
    rw [B1.cell (by simp)]; exact cell_of_row _ _ _ _ _ _ (heap_alloc_new _ _)
  have L1 := Lib.hid (L0.out.trans (B1.mono (by simp)))
  clear B1 C1 L0
  go_wp2
  go_quiet (fail)
  go_wp2
  go_ret
  exact ⟨rfl, below_drewN' L1.out _⟩
set_option maxHeartbeats 1000000 in
theorem right_len (b : Nat) (x : Pz) (w : World) (hb : b ≤ 4099) (hs : small x) (c : ¬ x.raw) (h0 : x.t = []) (h1 : ¬ (1 ≤ x.n ∧ x.n ≤ 4099)) : Calls Try.prog 59 #[.int .i64 (b : Int), pv x] w fun e w' => e = .returned (.bool false) ∧ Below w.heap.size w w' := by
  have C1 : Hid (∀ W, Calls Try.prog 62 #[pv x] W fun e w' => e = .returned (.bool (decide (¬ x.raw))) ∧ Below W.heap.size W w') := fun W => iscopy_any x W hs
  rw [decide_eq_true c] at C1
  unfold small at hs
  have W1 : Hid (∀ W, _) := Lib.hid (within_any (x.n : Int) 1 4099 (hv := by omega) (hl := by decide) (hm := by decide))
  have W2 : Hid (∀ W, _) := Lib.hid (within_any (x.p : Int) 0 ((b : Int) - x.n) (hv := by omega) (hl := by decide) (hm := by omega))
  rw [FB_1, FB_4099] at W1
  rw [FB_0] at W2
  have hsub := sub_B b x.n hb hs.2
  have hfb : floatOfInt .f64 (b : Int) = FB (b : Int) := rfl
  have ht := (bs_nil x.t).1 h0
  rw [decide_eq_false (by omega)] at W1
  unfold pv cpv at C1 ⊢
  generalize FB (x.p : Int) = P at *
  generalize FB (x.n : Int) = N at *
  generalize FB (b : Int) = B at *
  generalize FB ((b : Int) - x.n) = D at *
  generalize bs x.t = sb at *
  subst ht
  clear h0 h1 hs c hb W2 hsub hfb
  have L0 := Lib.hid ((Below.refl w.heap.size w).alloc (Nat.le_refl _) (.cells #[.complex .f64 P N, .string ⟨#[]⟩] 76))
  go_enter Try.func59, Try.ntmps59
  go_wp2_with fail
  refine (C1.out _).mono ?_
  rintro e w1 ⟨rfl, B1⟩
  have c0 : w1.cell? ⟨w.heap.size, 0, none⟩ = some (.complex .f64 P N) := by
    rw [B1.cell (by simp)]; exact cell_of_row _ _ _ _ _ _ (heap_alloc_new _ _)
  have c1 : w1.cell? ⟨w.heap.size, 1, none⟩ = some (.string ⟨#[]⟩) := by
    rw [B1.cell (by simp)]; exact cell_of_row _ _ _ _ _ _ (heap_alloc_new _ _)
  have L1 := Lib.hid (L0.out.trans (B1.mono (by simp)))
  clear B1 C1 L0
  go_wp2
  go_quiet (fail)
  go_wp2_with fail
  refine (W1.out _).mono ?_
  rintro e w2 ⟨rfl, rfl⟩
  go_wp2
  go_ret
  exact ⟨rfl, below_drewN' L1.out _⟩
set_option maxHeartbeats 1000000 in
theorem right_end (b : Nat) (x : Pz) (w : World) (hb : b ≤ 4099) (hs : small x) (c : ¬ x.raw) (h0 : x.t = []) (h1 : 1 ≤ x.n ∧ x.n ≤ 4099) (h2 : ¬ x.p + x.n ≤ b) : Calls Try.prog 59 #[.int .i64 (b : Int), pv x] w fun e w' => e = .returned (.bool false) ∧ Below w.heap.size w w' := by
  have C1 : Hid (∀ W, Calls Try.prog 62 #[pv x] W fun e w' => e = .returned (.bool (decide (¬ x.raw))) ∧ Below W.heap.size W w') := fun W => iscopy_any x W hs
  rw [decide_eq_true c] at C1
  unfold small at hs
  have W1 : Hid (∀ W, _) := Lib.hid (within_any (x.n : Int) 1 4099 (hv := by omega) (hl := by decide) (hm := by decide))
  have W2 : Hid (∀ W, _) := Lib.hid (within_any (x.p : Int) 0 ((b : Int) - x.n) (hv := by omega) (hl := by decide) (hm := by omega))
  rw [FB_1, FB_4099] at W1
  rw [FB_0] at W2
  have hsub := sub_B b x.n hb hs.2
  have hfb : floatOfInt .f64 (b : Int) = FB (b : Int) := rfl
  have ht := (bs_nil x.t).1 h0
  rw [decide_eq_true (by omega)] at W1
  rw [decide_eq_false (by omega)] at W2
  unfold pv cpv at C1 ⊢
  generalize FB (x.p : Int) = P at *
  generalize FB (x.n : Int) = N at *
  generalize FB (b : Int) = B at *
  generalize FB ((b : Int) - x.n) = D at *
  generalize bs x.t = sb at *
  subst ht
  clear h0 h1 h2 hs c hb
  have L0 := Lib.hid ((Below.refl w.heap.size w).alloc (Nat.le_refl _) (.cells #[.complex .f64 P N, .string ⟨#[]⟩] 76))
  go_enter Try.func59, Try.ntmps59
  go_wp2_with fail
  refine (C1.out _).mono ?_
  rintro e w1 ⟨rfl, B1⟩
  have c0 : w1.cell? ⟨w.heap.size, 0, none⟩ = some (.complex .f64 P N) := by
    rw [B1.cell (by simp)]; exact cell_of_row _ _ _ _ _ _ (heap_alloc_new _ _)
  have c1 : w1.cell? ⟨w.heap.size, 1, none⟩ = some (.string ⟨#[]⟩) := by
    rw [B1.cell (by simp)]; exact cell_of_row _ _ _ _ _ _ (heap_alloc_new _ _)
  have L1 := Lib.hid (L0.out.trans (B1.mono (by simp)))
  clear B1 C1 L0
  go_wp2
  go_quiet (fail)
  go_wp2_with fail
  refine (W1.out _).mono ?_
  rintro e w2 ⟨rfl, rfl⟩
  go_wp2_with fail
  refine (W2.out _).mono ?_
  rintro e w3 ⟨rfl, rfl⟩
  go_wp2
  go_ret
  exact ⟨rfl, below_drewN' L1.out _⟩
theorem right_any (b : Nat) (x : Pz) (w : World) (hb : b ≤ 4099) (hs : small x) : Calls Try.prog 59 #[.int .i64 (b : Int), pv x] w fun e w' => e = .returned (.bool (decide (good b x))) ∧ Below w.heap.size w w' := by
  by_cases c : x.raw
  · have hg : good b x = (1 ≤ x.t.length ∧ x.t.length ≤ 4099) := by unfold good; rw [if_pos c]
    by_cases c1 : 1 ≤ x.t.length
    · by_cases c2 : x.t.length ≤ 4099
      · rw [decide_eq_true (by rw [hg]; exact ⟨c1, c2⟩)]; exact right_raw b x w hs c c1 c2
      · rw [decide_eq_false (by rw [hg]; exact fun h => c2 h.2)]; exact right_many b x w hs c (by omega)
    · rw [decide_eq_false (by rw [hg]; exact fun h => c1 h.1)]; exact right_few b x w hs c c1
  · have hg : good b x = (x.t = [] ∧ 1 ≤ x.n ∧ x.n ≤ 4099 ∧ x.p + x.n ≤ b) := by unfold good; rw [if_neg c]
    by_cases c0 : x.t = []
    · by_cases c1 : 1 ≤ x.n ∧ x.n ≤ 4099
      · by_cases c2 : x.p + x.n ≤ b
        · rw [decide_eq_true (by rw [hg]; exact ⟨c0, c1.1, c1.2, c2⟩)]; exact right_copy b x w hb hs c c0 c1 c2
        · rw [decide_eq_false (by rw [hg]; exact fun h => c2 h.2.2.2)]; exact right_end b x w hb hs c c0 c1 c2
      · rw [decide_eq_false (by rw [hg]; exact fun h => c1 ⟨h.2.1, h.2.2.1⟩)]; exact right_len b x w hb hs c c0 c1
    · rw [decide_eq_false (by rw [hg]; exact fun h => c0 h.1)]; exact right_text b x w hb hs c c0
end Go.Proofs.Ytekeaoolodmdaaa
