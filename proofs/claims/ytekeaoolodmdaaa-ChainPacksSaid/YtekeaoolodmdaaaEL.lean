import Derived.Test.YtekeaoolodmdaaaE5
import Derived.Test.YtekeaoolodmdaaaE6
/- Which pieces are right, as the reference tells it. -/
namespace Go.Proofs.Ytekeaoolodmdaaa
set_option maxRecDepth 100000
open Go.RowKit
set_option maxHeartbeats 1000000 in
theorem near_in (v l m : Int) (w : World) (hv : v.natAbs < 9007199254740992) (hl : l.natAbs < 9007199254740992) (hm : m.natAbs < 9007199254740992) (c1 : l ≤ v) (c2 : v ≤ m) :
    Calls Try.prog 55 #[.float .f64 (FB v), .int .i64 l, .int .i64 m] w fun e w' => e = .returned (.tuple #[.int .i64 v, .bool true]) ∧ w = w' := by
  have o3 := ord_eq (rfl : v = v) hv
  have h1 := ord_ge c1 hv hl
  have h2 := ord_le c2 hv hm
  have f1 : floatOfInt .f64 l = FB l := rfl
  have f2 : floatOfInt .f64 m = FB m := rfl
  have f3 : floatOfInt .f64 v = FB v := rfl
  have cv := cv_int v hv
  clear c1 c2 hv hl hm
  generalize FB v = V at *
  generalize FB l = L at *
  generalize FB m = M at *
  rcases h1 with o1 | o1 <;> rcases h2 with o2 | o2
  all_goals
    go_enter Try.func55, Try.ntmps55
    go_wp2
    go_ret2
    exact ⟨rfl, rfl⟩
set_option maxHeartbeats 1000000 in
theorem near_out (v l m : Int) (w : World) (hv : v.natAbs < 9007199254740992) (hl : l.natAbs < 9007199254740992) (hm : m.natAbs < 9007199254740992) (c : ¬ (l ≤ v ∧ v ≤ m)) :
    Calls Try.prog 55 #[.float .f64 (FB v), .int .i64 l, .int .i64 m] w fun e w' => e = .returned (.tuple #[.int .i64 0, .bool false]) ∧ w = w' := by
  have f1 : floatOfInt .f64 l = FB l := rfl
  have f2 : floatOfInt .f64 m = FB m := rfl
  by_cases c1 : l ≤ v
  · have h1 := ord_ge c1 hv hl
    have o2 := ord_gt (show m < v by omega) hv hm
    clear c c1 hv hl hm
    generalize FB v = V at *
    generalize FB l = L at *
    generalize FB m = M at *
    rcases h1 with o1 | o1
    all_goals
      go_enter Try.func55, Try.ntmps55
      go_wp2
      go_ret2
      exact ⟨rfl, rfl⟩
  · have o1 := ord_lt (show v < l by omega) hv hl
    clear c c1 hv hl hm
    generalize FB v = V at *
    generalize FB l = L at *
    generalize FB m = M at *
    go_enter Try.func55, Try.ntmps55
    go_wp2
    go_ret2
    exact ⟨rfl, rfl⟩
set_option maxHeartbeats 1000000 in
theorem copy_yes (b : Nat) (x : Pz) (w : World) (hb : b ≤ 5000) (hs : small x) (h1 : 1 ≤ x.n ∧ x.n ≤ 4099) (h0 : x.t = []) (h2 : x.p + x.n ≤ b) : Calls Try.prog 39 #[pv x, .int .i64 (b : Int)] w fun e w' => e = .returned (.tuple #[.int .i64 (x.p : Int), .int .i64 (x.n : Int), .bool true]) ∧ Below w.heap.size w w' := by
  unfold small at hs
  have zt := bs_size x.t
  have N1 : Hid (∀ W, _) := Lib.hid (fun W => near_in (x.n : Int) 1 4099 W (by omega) (by decide) (by decide) (by omega) (by omega))
  have N2 : Hid (∀ W, _) := Lib.hid (fun W => near_in (x.p : Int) 0 ((b : Int) - x.n) W (by omega) (by decide) (by omega) (by omega) (by omega))
  have t1 : ((bs x.t).size : Int) = 0 := by rw [zt, h0]; rfl
  have t2 : ¬ (0 : Int) < ((bs x.t).size : Int) := by omega
  have t3 : (x.n : Int) ≤ (b : Int) := by omega
  have w5 : IntKind.i64.wrap ((b : Int) - (x.n : Int)) = (b : Int) - (x.n : Int) := IntWalk.i64_in _ (by omega)
  unfold pv cpv
  generalize FB (x.p : Int) = P at *
  generalize FB (x.n : Int) = N at *
  generalize bs x.t = sb at *
  clear h0 h1 h2 hs zt hb
  have L0 := Lib.hid ((Below.refl w.heap.size w).alloc (Nat.le_refl _) (.cells #[.complex .f64 P N, .string sb] 76))
  go_enter Try.func39, Try.ntmps39
  go_wp2_with fail
  refine (N1.out _).mono ?_
  rintro e w1 ⟨rfl, rfl⟩
  go_wp2_with fail
  refine (N2.out _).mono ?_
  rintro e w2 ⟨rfl, rfl⟩
  go_wp2
  go_ret3
  exact ⟨rfl, L0.out⟩
set_option maxHeartbeats 1000000 in
theorem copy_len (b : Nat) (x : Pz) (w : World) (hb : b ≤ 5000) (hs : small x) (h1 : ¬ (1 ≤ x.n ∧ x.n ≤ 4099)) : Calls Try.prog 39 #[pv x, .int .i64 (b : Int)] w fun e w' => (∃ a c : Int, e = .returned (.tuple #[.int .i64 a, .int .i64 c, .bool false])) ∧ Below w.heap.size w w' := by
  unfold small at hs
  have zt := bs_size x.t
  have N1 : Hid (∀ W, _) := Lib.hid (fun W => near_out (x.n : Int) 1 4099 W (by omega) (by decide) (by decide) (by omega))
  have w5 : IntKind.i64.wrap ((b : Int) - (x.n : Int)) = (b : Int) - (x.n : Int) := IntWalk.i64_in _ (by omega)
  unfold pv cpv
  generalize FB (x.p : Int) = P at *
  generalize FB (x.n : Int) = N at *
  generalize bs x.t = sb at *
  clear h1 hs zt hb
  have L0 := Lib.hid ((Below.refl w.heap.size w).alloc (Nat.le_refl _) (.cells #[.complex .f64 P N, .string sb] 76))
  go_enter Try.func39, Try.ntmps39
  go_wp2_with fail
  refine (N1.out _).mono ?_
  rintro e w1 ⟨rfl, rfl⟩
  go_wp2
  go_ret3
  exact ⟨⟨_, _, rfl⟩, L0.out⟩
set_option maxHeartbeats 1000000 in
theorem copy_text (b : Nat) (x : Pz) (w : World) (hb : b ≤ 5000) (hs : small x) (h1 : 1 ≤ x.n ∧ x.n ≤ 4099) (h0 : ¬ x.t = []) : Calls Try.prog 39 #[pv x, .int .i64 (b : Int)] w fun e w' => (∃ a c : Int, e = .returned (.tuple #[.int .i64 a, .int .i64 c, .bool false])) ∧ Below w.heap.size w w' := by
  unfold small at hs
  have zt := bs_size x.t
  have N1 : Hid (∀ W, _) := Lib.hid (fun W => near_in (x.n : Int) 1 4099 W (by omega) (by decide) (by decide) (by omega) (by omega))
  have t1 : (0 : Int) < ((bs x.t).size : Int) := by
    rw [zt]
    have : x.t.length ≠ 0 := fun h => h0 (List.eq_nil_of_length_eq_zero h)
    omega
  have t4 : ¬ bs x.t = ByteArray.empty := fun h => h0 (bs_inj (h.trans rfl))
  have w5 : IntKind.i64.wrap ((b : Int) - (x.n : Int)) = (b : Int) - (x.n : Int) := IntWalk.i64_in _ (by omega)
  unfold pv cpv
  generalize FB (x.p : Int) = P at *
  generalize FB (x.n : Int) = N at *
  generalize bs x.t = sb at *
  clear h0 h1 hs zt hb
  have L0 := Lib.hid ((Below.refl w.heap.size w).alloc (Nat.le_refl _) (.cells #[.complex .f64 P N, .string sb] 76))
  go_enter Try.func39, Try.ntmps39
  go_wp2_with fail
  refine (N1.out _).mono ?_
  rintro e w1 ⟨rfl, rfl⟩
  go_wp2
  go_ret3
  exact ⟨⟨_, _, rfl⟩, L0.out⟩
set_option maxHeartbeats 1000000 in
theorem copy_over (b : Nat) (x : Pz) (w : World) (hb : b ≤ 5000) (hs : small x) (h1 : 1 ≤ x.n ∧ x.n ≤ 4099) (h0 : x.t = []) (h2 : b < x.n) : Calls Try.prog 39 #[pv x, .int .i64 (b : Int)] w fun e w' => (∃ a c : Int, e = .returned (.tuple #[.int .i64 a, .int .i64 c, .bool false])) ∧ Below w.heap.size w w' := by
  unfold small at hs
  have zt := bs_size x.t
  have N1 : Hid (∀ W, _) := Lib.hid (fun W => near_in (x.n : Int) 1 4099 W (by omega) (by decide) (by decide) (by omega) (by omega))
  have t1 : ((bs x.t).size : Int) = 0 := by rw [zt, h0]; rfl
  have t2 : ¬ (0 : Int) < ((bs x.t).size : Int) := by omega
  have t3 : (b : Int) < (x.n : Int) := by omega
  have w5 : IntKind.i64.wrap ((b : Int) - (x.n : Int)) = (b : Int) - (x.n : Int) := IntWalk.i64_in _ (by omega)
  unfold pv cpv
  generalize FB (x.p : Int) = P at *
  generalize FB (x.n : Int) = N at *
  generalize bs x.t = sb at *
  clear h0 h1 h2 hs zt hb
  have L0 := Lib.hid ((Below.refl w.heap.size w).alloc (Nat.le_refl _) (.cells #[.complex .f64 P N, .string sb] 76))
  go_enter Try.func39, Try.ntmps39
  go_wp2_with fail
  refine (N1.out _).mono ?_
  rintro e w1 ⟨rfl, rfl⟩
  go_wp2
  go_ret3
  exact ⟨⟨_, _, rfl⟩, L0.out⟩
set_option maxHeartbeats 1000000 in
theorem copy_end (b : Nat) (x : Pz) (w : World) (hb : b ≤ 5000) (hs : small x) (h1 : 1 ≤ x.n ∧ x.n ≤ 4099) (h0 : x.t = []) (h2 : x.n ≤ b) (h3 : ¬ x.p + x.n ≤ b) : Calls Try.prog 39 #[pv x, .int .i64 (b : Int)] w fun e w' => (∃ a c : Int, e = .returned (.tuple #[.int .i64 a, .int .i64 c, .bool false])) ∧ Below w.heap.size w w' := by
  unfold small at hs
  have zt := bs_size x.t
  have N1 : Hid (∀ W, _) := Lib.hid (fun W => near_in (x.n : Int) 1 4099 W (by omega) (by decide) (by decide) (by omega) (by omega))
  have N2 : Hid (∀ W, _) := Lib.hid (fun W => near_out (x.p : Int) 0 ((b : Int) - x.n) W (by omega) (by decide) (by omega) (by omega))
  have t1 : ((bs x.t).size : Int) = 0 := by rw [zt, h0]; rfl
  have t2 : ¬ (0 : Int) < ((bs x.t).size : Int) := by omega
  have t3 : (x.n : Int) ≤ (b : Int) := by omega
  have w5 : IntKind.i64.wrap ((b : Int) - (x.n : Int)) = (b : Int) - (x.n : Int) := IntWalk.i64_in _ (by omega)
  unfold pv cpv
  generalize FB (x.p : Int) = P at *
  generalize FB (x.n : Int) = N at *
  generalize bs x.t = sb at *
  clear h0 h1 h2 h3 hs zt hb
  have L0 := Lib.hid ((Below.refl w.heap.size w).alloc (Nat.le_refl _) (.cells #[.complex .f64 P N, .string sb] 76))
  go_enter Try.func39, Try.ntmps39
  go_wp2_with fail
  refine (N1.out _).mono ?_
  rintro e w1 ⟨rfl, rfl⟩
  go_wp2_with fail
  refine (N2.out _).mono ?_
  rintro e w2 ⟨rfl, rfl⟩
  go_wp2
  go_ret3
  exact ⟨⟨_, _, rfl⟩, L0.out⟩
theorem qcopy_yes (b : Nat) (x : Pz) (w : World) (hb : b ≤ 4099) (hs : small x) (c : ¬ x.raw) (hg : good b x) : Calls Try.prog 39 #[pv x, .int .i64 (b : Int)] w fun e w' => e = .returned (.tuple #[.int .i64 (x.p : Int), .int .i64 (x.n : Int), .bool true]) ∧ Below w.heap.size w w' := by
  unfold good at hg
  rw [if_neg c] at hg
  exact copy_yes b x w (by omega) hs ⟨hg.2.1, hg.2.2.1⟩ hg.1 hg.2.2.2
theorem qcopy_no (b : Nat) (x : Pz) (w : World) (hb : b ≤ 4099) (hs : small x) (c : ¬ (¬ x.raw ∧ good b x)) : Calls Try.prog 39 #[pv x, .int .i64 (b : Int)] w fun e w' => (∃ a c : Int, e = .returned (.tuple #[.int .i64 a, .int .i64 c, .bool false])) ∧ Below w.heap.size w w' := by
  by_cases h1 : 1 ≤ x.n ∧ x.n ≤ 4099
  · have hr : ¬ x.raw := fun h => by have : x.n = 0 := h.2; omega
    by_cases h0 : x.t = []
    · by_cases h2 : x.n ≤ b
      · by_cases h3 : x.p + x.n ≤ b
        · exfalso
          apply c
          refine ⟨hr, ?_⟩
          unfold good
          rw [if_neg hr]
          exact ⟨h0, h1.1, h1.2, h3⟩
        · exact copy_end b x w (by omega) hs h1 h0 h2 h3
      · exact copy_over b x w (by omega) hs h1 h0 (by omega)
    · exact copy_text b x w (by omega) hs h1 h0
  · exact copy_len b x w (by omega) hs h1
set_option maxHeartbeats 1000000 in
theorem qright_raw (b : Nat) (x : Pz) (w : World) (hs : small x) (c : x.raw) (h1 : 1 ≤ x.t.length) (h2 : x.t.length ≤ 4099) : Calls Try.prog 58 #[pv x, .int .i64 (b : Int)] w fun e w' => e = .returned (.bool true) ∧ Below w.heap.size w w' := by
  have o1 := ord0 x.p hs.1
  have o2 := ord0 x.n hs.2
  rw [if_pos c.1] at o1
  rw [if_pos c.2] at o2
  have hz := bs_size x.t
  unfold pv cpv
  generalize FB (x.p : Int) = P at *
  generalize FB (x.n : Int) = N at *
  generalize bs x.t = sb at *
  have t1 : (1 : Int) ≤ (sb.size : Int) := by omega
  have t2 : (sb.size : Int) ≤ 4099 := by omega
  clear h1 h2
  clear hs c hz
  have L0 := Lib.hid ((Below.refl w.heap.size w).alloc (Nat.le_refl _) (.cells #[.complex .f64 P N, .string sb] 76))
  go_enter Try.func58, Try.ntmps58
  go_wp2
  go_ret
  exact ⟨rfl, L0.out⟩
set_option maxHeartbeats 1000000 in
theorem qright_few (b : Nat) (x : Pz) (w : World) (hs : small x) (c : x.raw) (h1 : ¬ 1 ≤ x.t.length) : Calls Try.prog 58 #[pv x, .int .i64 (b : Int)] w fun e w' => e = .returned (.bool false) ∧ Below w.heap.size w w' := by
  have o1 := ord0 x.p hs.1
  have o2 := ord0 x.n hs.2
  rw [if_pos c.1] at o1
  rw [if_pos c.2] at o2
  have hz := bs_size x.t
  unfold pv cpv
  generalize FB (x.p : Int) = P at *
  generalize FB (x.n : Int) = N at *
  generalize bs x.t = sb at *
  have t1 : (sb.size : Int) < 1 := by omega
  clear h1
  clear hs c hz
  have L0 := Lib.hid ((Below.refl w.heap.size w).alloc (Nat.le_refl _) (.cells #[.complex .f64 P N, .string sb] 76))
  go_enter Try.func58, Try.ntmps58
  go_wp2
  go_ret
  exact ⟨rfl, L0.out⟩
set_option maxHeartbeats 1000000 in
theorem qright_many (b : Nat) (x : Pz) (w : World) (hs : small x) (c : x.raw) (h1 : 4099 < x.t.length) : Calls Try.prog 58 #[pv x, .int .i64 (b : Int)] w fun e w' => e = .returned (.bool false) ∧ Below w.heap.size w w' := by
  have o1 := ord0 x.p hs.1
  have o2 := ord0 x.n hs.2
  rw [if_pos c.1] at o1
  rw [if_pos c.2] at o2
  have hz := bs_size x.t
  unfold pv cpv
  generalize FB (x.p : Int) = P at *
  generalize FB (x.n : Int) = N at *
  generalize bs x.t = sb at *
  have t1 : (1 : Int) ≤ (sb.size : Int) := by omega
  have t2 : decide ((sb.size : Int) ≤ 4099) = false := decide_eq_false (by omega)
  clear h1
  clear hs c hz
  have L0 := Lib.hid ((Below.refl w.heap.size w).alloc (Nat.le_refl _) (.cells #[.complex .f64 P N, .string sb] 76))
  go_enter Try.func58, Try.ntmps58
  go_wp2
  go_ret
  exact ⟨rfl, L0.out⟩
set_option maxHeartbeats 1000000 in
theorem qright_copy (b : Nat) (x : Pz) (w : World) (r : Bool) (hs : small x) (c : ¬ x.raw) (C : Hid (∀ W, Calls Try.prog 39 #[pv x, .int .i64 (b : Int)] W fun e w' => (∃ a c : Int, e = .returned (.tuple #[.int .i64 a, .int .i64 c, .bool r])) ∧ Below W.heap.size W w')) :
    Calls Try.prog 58 #[pv x, .int .i64 (b : Int)] w fun e w' => e = .returned (.bool r) ∧ Below w.heap.size w w' := by
  have o1 := ord0 x.p hs.1
  have o2 := ord0 x.n hs.2
  unfold pv cpv at C ⊢
  have hc : ¬ (x.p = 0 ∧ x.n = 0) := c
  generalize FB (x.p : Int) = P at *
  generalize FB (x.n : Int) = N at *
  generalize bs x.t = sb at *
  have L0 := Lib.hid ((Below.refl w.heap.size w).alloc (Nat.le_refl _) (.cells #[.complex .f64 P N, .string sb] 76))
  by_cases c1 : x.p = 0
  · rw [if_pos c1] at o1
    rw [if_neg (by omega)] at o2
    clear hs c c1 hc
    go_enter Try.func58, Try.ntmps58
    go_wp2_with fail
    refine (C.out _).mono ?_
    rintro e w1 ⟨⟨a, c, rfl⟩, B1⟩
    have L1 := Lib.hid (L0.out.trans (B1.mono (by simp)))
    clear B1
    go_wp2
    go_ret
    exact ⟨rfl, L1.out⟩
  · rw [if_neg c1] at o1
    clear hs c c1 hc o2
    go_enter Try.func58, Try.ntmps58
    go_wp2_with fail
    refine (C.out _).mono ?_
    rintro e w1 ⟨⟨a, c, rfl⟩, B1⟩
    have L1 := Lib.hid (L0.out.trans (B1.mono (by simp)))
    clear B1
    go_wp2
    go_ret
    exact ⟨rfl, L1.out⟩
theorem qright_any (b : Nat) (x : Pz) (w : World) (hb : b ≤ 4099) (hs : small x) : Calls Try.prog 58 #[pv x, .int .i64 (b : Int)] w fun e w' => e = .returned (.bool (decide (good b x))) ∧ Below w.heap.size w w' := by
  by_cases c : x.raw
  · have hg : good b x = (1 ≤ x.t.length ∧ x.t.length ≤ 4099) := by unfold good; rw [if_pos c]
    by_cases c1 : 1 ≤ x.t.length
    · by_cases c2 : x.t.length ≤ 4099
      · rw [decide_eq_true (by rw [hg]; exact ⟨c1, c2⟩)]; exact qright_raw b x w hs c c1 c2
      · rw [decide_eq_false (by rw [hg]; exact fun h => c2 h.2)]; exact qright_many b x w hs c (by omega)
    · rw [decide_eq_false (by rw [hg]; exact fun h => c1 h.1)]; exact qright_few b x w hs c c1
  · by_cases hg : good b x
    · rw [decide_eq_true hg]
      refine qright_copy b x w true hs c (Lib.hid fun W => (qcopy_yes b x W hb hs c hg).mono ?_)
      rintro e w' ⟨rfl, hB⟩
      exact ⟨⟨_, _, rfl⟩, hB⟩
    · rw [decide_eq_false hg]
      exact qright_copy b x w false hs c (Lib.hid fun W => qcopy_no b x W hb hs (fun h => hg h.2))
end Go.Proofs.Ytekeaoolodmdaaa
