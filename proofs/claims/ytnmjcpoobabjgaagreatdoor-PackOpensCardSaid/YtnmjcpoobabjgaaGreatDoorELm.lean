import Derived.Test.YtnmjcpoobabjgaaGreatDoorECm
import Derived.Test.YtnmjcpoobabjgaaGreatDoorO8m
import Derived.Test.YtnmjcpoobabjgaaGreatDoorEDm
import Derived.Test.YtnmjcpoobabjgaaGreatDoorQ1m
set_option linter.unusedVariables false
set_option linter.unusedSimpArgs false
/- Which pieces are right, as the reference tells it. -/
namespace Go.Proofs.YtnmjcpoobabjgaaGreatDoor
set_option maxRecDepth 100000
open Go.RowKit
set_option maxHeartbeats 1000000 in
theorem near_in (v l m : Int) (w : World) (hv : v.natAbs < 9007199254740992) (hl : l.natAbs < 9007199254740992) (hm : m.natAbs < 9007199254740992) (c1 : l ≤ v) (c2 : v ≤ m) :
    Calls Tryz.prog 133 #[.float .f64 (FB v), .int .i64 l, .int .i64 m] w fun e w' => e = .returned (.tuple #[.int .i64 v, .bool true]) ∧ w = w' := by
  have o3 := ord_eq (rfl : v = v) hv
  have h1 := ord_ge c1 hv hl
  have h2 := ord_le c2 hv hm
  have f1 : floatOfInt .f64 l = FB l := rfl
  have f2 : floatOfInt .f64 m = FB m := rfl
  have f3 : floatOfInt .f64 v = FB v := rfl
  have cv := cv_int v hv
  clear c1 c2 hv hl hm
  generalize FB v = V at *
  generalize FB l = L at *
  generalize FB m = M at *
  rcases h1 with o1 | o1 <;> rcases h2 with o2 | o2
  all_goals
    go_enter Tryz.func133, Tryz.ntmps133
    go_wp2
    go_ret2
    exact ⟨rfl, rfl⟩
set_option maxHeartbeats 1000000 in
theorem near_out (v l m : Int) (w : World) (hv : v.natAbs < 9007199254740992) (hl : l.natAbs < 9007199254740992) (hm : m.natAbs < 9007199254740992) (c : ¬ (l ≤ v ∧ v ≤ m)) :
    Calls Tryz.prog 133 #[.float .f64 (FB v), .int .i64 l, .int .i64 m] w fun e w' => e = .returned (.tuple #[.int .i64 0, .bool false]) ∧ w = w' := by
  have f1 : floatOfInt .f64 l = FB l := rfl
  have f2 : floatOfInt .f64 m = FB m := rfl
  by_cases c1 : l ≤ v
  · have h1 := ord_ge c1 hv hl
    have o2 := ord_gt (show m < v by omega) hv hm
    clear c c1 hv hl hm
    generalize FB v = V at *
    generalize FB l = L at *
    generalize FB m = M at *
    rcases h1 with o1 | o1
    all_goals
      go_enter Tryz.func133, Tryz.ntmps133
      go_wp2
      go_ret2
      exact ⟨rfl, rfl⟩
  · have o1 := ord_lt (show v < l by omega) hv hl
    clear c c1 hv hl hm
    generalize FB v = V at *
    generalize FB l = L at *
    generalize FB m = M at *
    go_enter Tryz.func133, Tryz.ntmps133
    go_wp2
    go_ret2
    exact ⟨rfl, rfl⟩
set_option maxHeartbeats 1000000 in
theorem copy_yes (b : Nat) (x : Pz) (w : World) (hb : b ≤ 5000) (hs : small x) (h1 : 1 ≤ x.n ∧ x.n ≤ 4099) (h0 : x.t = []) (h2 : x.p + x.n ≤ b) : Calls Tryz.prog 118 #[pv x, .int .i64 (b : Int)] w fun e w' => e = .returned (.tuple #[.int .i64 (x.p : Int), .int .i64 (x.n : Int), .bool true]) ∧ Below w.heap.size w w' := by
  unfold small at hs
  have zt := bs_size x.t
  have N1 : Hid (∀ W, _) := Lib.hid (fun W => near_in (x.n : Int) 1 4099 W (by omega) (by decide) (by decide) (by omega) (by omega))
  have N2 : Hid (∀ W, _) := Lib.hid (fun W => near_in (x.p : Int) 0 ((b : Int) - x.n) W (by omega) (by decide) (by omega) (by omega) (by omega))
  have t1 : ((bs x.t).size : Int) = 0 := by rw [zt, h0]; rfl
  have t2 : ¬ (0 : Int) < ((bs x.t).size : Int) := by omega
  have t3 : (x.n : Int) ≤ (b : Int) := by omega
  have w5 : IntKind.i64.wrap ((b : Int) - (x.n : Int)) = (b : Int) - (x.n : Int) := IntWalk.i64_in _ (by omega)
  unfold pv cpv
  generalize FB (x.p : Int) = P at *
  generalize FB (x.n : Int) = N at *
  generalize bs x.t = sb at *
  clear h0 h1 h2 hs zt hb
  have L0 := Lib.hid ((Below.refl w.heap.size w).alloc (Nat.le_refl _) (.cells #[.complex .f64 P N, .string sb] 189))
  go_enter Tryz.func118, Tryz.ntmps118
  go_wp2_with fail
  refine (N1.out _).mono ?_
  rintro e w1 ⟨rfl, rfl⟩
  go_wp2_with fail
  refine (N2.out _).mono ?_
  rintro e w2 ⟨rfl, rfl⟩
  go_wp2
  go_ret3
  exact ⟨rfl, L0.out⟩
set_option maxHeartbeats 1000000 in
theorem copy_len (b : Nat) (x : Pz) (w : World) (hb : b ≤ 5000) (hs : small x) (h1 : ¬ (1 ≤ x.n ∧ x.n ≤ 4099)) : Calls Tryz.prog 118 #[pv x, .int .i64 (b : Int)] w fun e w' => (∃ a c : Int, e = .returned (.tuple #[.int .i64 a, .int .i64 c, .bool false])) ∧ Below w.heap.size w w' := by
  unfold small at hs
  have zt := bs_size x.t
  have N1 : Hid (∀ W, _) := Lib.hid (fun W => near_out (x.n : Int) 1 4099 W (by omega) (by decide) (by decide) (by omega))
  have w5 : IntKind.i64.wrap ((b : Int) - (x.n : Int)) = (b : Int) - (x.n : Int) := IntWalk.i64_in _ (by omega)
  unfold pv cpv
  generalize FB (x.p : Int) = P at *
  generalize FB (x.n : Int) = N at *
  generalize bs x.t = sb at *
  clear h1 hs zt hb
  have L0 := Lib.hid ((Below.refl w.heap.size w).alloc (Nat.le_refl _) (.cells #[.complex .f64 P N, .string sb] 189))
  go_enter Tryz.func118, Tryz.ntmps118
  go_wp2_with fail
  refine (N1.out _).mono ?_
  rintro e w1 ⟨rfl, rfl⟩
  go_wp2
  go_ret3
  exact ⟨⟨_, _, rfl⟩, L0.out⟩
set_option maxHeartbeats 1000000 in
theorem copy_text (b : Nat) (x : Pz) (w : World) (hb : b ≤ 5000) (hs : small x) (h1 : 1 ≤ x.n ∧ x.n ≤ 4099) (h0 : ¬ x.t = []) : Calls Tryz.prog 118 #[pv x, .int .i64 (b : Int)] w fun e w' => (∃ a c : Int, e = .returned (.tuple #[.int .i64 a, .int .i64 c, .bool false])) ∧ Below w.heap.size w w' := by
  unfold small at hs
  have zt := bs_size x.t
  have N1 : Hid (∀ W, _) := Lib.hid (fun W => near_in (x.n : Int) 1 4099 W (by omega) (by decide) (by decide) (by omega) (by omega))
  have t1 : (0 : Int) < ((bs x.t).size : Int) := by
    rw [zt]
    have : x.t.length ≠ 0 := fun h => h0 (List.eq_nil_of_length_eq_zero h)
    omega
  have t4 : ¬ bs x.t = ByteArray.empty := fun h => h0 (bs_inj (h.trans rfl))
  have w5 : IntKind.i64.wrap ((b : Int) - (x.n : Int)) = (b : Int) - (x.n : Int) := IntWalk.i64_in _ (by omega)
  unfold pv cpv
  generalize FB (x.p : Int) = P at *
  generalize FB (x.n : Int) = N at *
  generalize bs x.t = sb at *
  clear h0 h1 hs zt hb
  have L0 := Lib.hid ((Below.refl w.heap.size w).alloc (Nat.le_refl _) (.cells #[.complex .f64 P N, .string sb] 189))
  go_enter Tryz.func118, Tryz.ntmps118
  go_wp2_with fail
  refine (N1.out _).mono ?_
  rintro e w1 ⟨rfl, rfl⟩
  go_wp2
  go_ret3
  exact ⟨⟨_, _, rfl⟩, L0.out⟩
set_option maxHeartbeats 1000000 in
theorem copy_over (b : Nat) (x : Pz) (w : World) (hb : b ≤ 5000) (hs : small x) (h1 : 1 ≤ x.n ∧ x.n ≤ 4099) (h0 : x.t = []) (h2 : b < x.n) : Calls Tryz.prog 118 #[pv x, .int .i64 (b : Int)] w fun e w' => (∃ a c : Int, e = .returned (.tuple #[.int .i64 a, .int .i64 c, .bool false])) ∧ Below w.heap.size w w' := by
  unfold small at hs
  have zt := bs_size x.t
  have N1 : Hid (∀ W, _) := Lib.hid (fun W => near_in (x.n : Int) 1 4099 W (by omega) (by decide) (by decide) (by omega) (by omega))
  have t1 : ((bs x.t).size : Int) = 0 := by rw [zt, h0]; rfl
  have t2 : ¬ (0 : Int) < ((bs x.t).size : Int) := by omega
  have t3 : (b : Int) < (x.n : Int) := by omega
  have w5 : IntKind.i64.wrap ((b : Int) - (x.n : Int)) = (b : Int) - (x.n : Int) := IntWalk.i64_in _ (by omega)
  unfold pv cpv
  generalize FB (x.p : Int) = P at *
  generalize FB (x.n : Int) = N at *
  generalize bs x.t = sb at *
  clear h0 h1 h2 hs zt hb
  have L0 := Lib.hid ((Below.refl w.heap.size w).alloc (Nat.le_refl _) (.cells #[.complex .f64 P N, .string sb] 189))
  go_enter Tryz.func118, Tryz.ntmps118
  go_wp2_with fail
  refine (N1.out _).mono ?_
  rintro e w1 ⟨rfl, rfl⟩
  go_wp2
  go_ret3
  exact ⟨⟨_, _, rfl⟩, L0.out⟩
set_option maxHeartbeats 1000000 in
theorem copy_end (b : Nat) (x : Pz) (w : World) (hb : b ≤ 5000) (hs : small x) (h1 : 1 ≤ x.n ∧ x.n ≤ 4099) (h0 : x.t = []) (h2 : x.n ≤ b) (h3 : ¬ x.p + x.n ≤ b) : Calls Tryz.prog 118 #[pv x, .int .i64 (b : Int)] w fun e w' => (∃ a c : Int, e = .returned (.tuple #[.int .i64 a, .int .i64 c, .bool false])) ∧ Below w.heap.size w w' := by
  unfold small at hs
  have zt := bs_size x.t
  have N1 : Hid (∀ W, _) := Lib.hid (fun W => near_in (x.n : Int) 1 4099 W (by omega) (by decide) (by decide) (by omega) (by omega))
  have N2 : Hid (∀ W, _) := Lib.hid (fun W => near_out (x.p : Int) 0 ((b : Int) - x.n) W (by omega) (by decide) (by omega) (by omega))
  have t1 : ((bs x.t).size : Int) = 0 := by rw [zt, h0]; rfl
  have t2 : ¬ (0 : Int) < ((bs x.t).size : Int) := by omega
  have t3 : (x.n : Int) ≤ (b : Int) := by omega
  have w5 : IntKind.i64.wrap ((b : Int) - (x.n : Int)) = (b : Int) - (x.n : Int) := IntWalk.i64_in _ (by omega)
  unfold pv cpv
  generalize FB (x.p : Int) = P at *
  generalize FB (x.n : Int) = N at *
  generalize bs x.t = sb at *
  clear h0 h1 h2 h3 hs zt hb
  have L0 := Lib.hid ((Below.refl w.heap.size w).alloc (Nat.le_refl _) (.cells #[.complex .f64 P N, .string sb] 189))
  go_enter Tryz.func118, Tryz.ntmps118
  go_wp2_with fail
  refine (N1.out _).mono ?_
  rintro e w1 ⟨rfl, rfl⟩
  go_wp2_with fail
  refine (N2.out _).mono ?_
  rintro e w2 ⟨rfl, rfl⟩
  go_wp2
  go_ret3
  exact ⟨⟨_, _, rfl⟩, L0.out⟩
theorem qcopy_yes (b : Nat) (x : Pz) (w : World) (hb : b ≤ 4099) (hs : small x) (c : ¬ x.raw) (hg : good b x) : Calls Tryz.prog 118 #[pv x, .int .i64 (b : Int)] w fun e w' => e = .returned (.tuple #[.int .i64 (x.p : Int), .int .i64 (x.n : Int), .bool true]) ∧ Below w.heap.size w w' := by
  unfold good at hg
  rw [if_neg c] at hg
  exact copy_yes b x w (by omega) hs ⟨hg.2.1, hg.2.2.1⟩ hg.1 hg.2.2.2
theorem qcopy_no (b : Nat) (x : Pz) (w : World) (hb : b ≤ 4099) (hs : small x) (c : ¬ (¬ x.raw ∧ good b x)) : Calls Tryz.prog 118 #[pv x, .int .i64 (b : Int)] w fun e w' => (∃ a c : Int, e = .returned (.tuple #[.int .i64 a, .int .i64 c, .bool false])) ∧ Below w.heap.size w w' := by
  by_cases h1 : 1 ≤ x.n ∧ x.n ≤ 4099
  · have hr : ¬ x.raw := fun h => by have : x.n = 0 := h.2; omega
    by_cases h0 : x.t = []
    · by_cases h2 : x.n ≤ b
      · by_cases h3 : x.p + x.n ≤ b
        · exfalso
          apply c
          refine ⟨hr, ?_⟩
          unfold good
          rw [if_neg hr]
          exact ⟨h0, h1.1, h1.2, h3⟩
        · exact copy_end b x w (by omega) hs h1 h0 h2 h3
      · exact copy_over b x w (by omega) hs h1 h0 (by omega)
    · exact copy_text b x w (by omega) hs h1 h0
  · exact copy_len b x w (by omega) hs h1
set_option maxHeartbeats 1000000 in
theorem qright_raw (b : Nat) (x : Pz) (w : World) (hs : small x) (c : x.raw) (h1 : 1 ≤ x.t.length) (h2 : x.t.length ≤ 4099) : Calls Tryz.prog 132 #[pv x, .int .i64 (b : Int)] w fun e w' => e = .returned (.bool true) ∧ Below w.heap.size w w' := by
  have o1 := ord0 x.p hs.1
  have o2 := ord0 x.n hs.2
  rw [if_pos c.1] at o1
  rw [if_pos c.2] at o2
  have hz := bs_size x.t
  unfold pv cpv
  generalize FB (x.p : Int) = P at *
  generalize FB (x.n : Int) = N at *
  generalize bs x.t = sb at *
  have t1 : (1 : Int) ≤ (sb.size : Int) := by omega
  have t2 : (sb.size : Int) ≤ 4099 := by omega
  clear h1 h2
  clear hs c hz
  have L0 := Lib.hid ((Below.refl w.heap.size w).alloc (Nat.le_refl _) (.cells #[.complex .f64 P N, .string sb] 189))
  go_enter Tryz.func132, Tryz.ntmps132
  go_wp2
  go_ret
  exact ⟨rfl, L0.out⟩
set_option maxHeartbeats 1000000 in
theorem qright_few (b : Nat) (x : Pz) (w : World) (hs : small x) (c : x.raw) (h1 : ¬ 1 ≤ x.t.length) : Calls Tryz.prog 132 #[pv x, .int .i64 (b : Int)] w fun e w' => e = .returned (.bool false) ∧ Below w.heap.size w w' := by
  have o1 := ord0 x.p hs.1
  have o2 := ord0 x.n hs.2
  rw [if_pos c.1] at o1
  rw [if_pos c.2] at o2
  have hz := bs_size x.t
  unfold pv cpv
  generalize FB (x.p : Int) = P at *
  generalize FB (x.n : Int) = N at *
  generalize bs x.t = sb at *
  have t1 : (sb.size : Int) < 1 := by omega
  clear h1
  clear hs c hz
  have L0 := Lib.hid ((Below.refl w.heap.size w).alloc (Nat.le_refl _) (.cells #[.complex .f64 P N, .string sb] 189))
  go_enter Tryz.func132, Tryz.ntmps132
  go_wp2
  go_ret
  exact ⟨rfl, L0.out⟩
set_option maxHeartbeats 1000000 in
theorem qright_many (b : Nat) (x : Pz) (w : World) (hs : small x) (c : x.raw) (h1 : 4099 < x.t.length) : Calls Tryz.prog 132 #[pv x, .int .i64 (b : Int)] w fun e w' => e = .returned (.bool false) ∧ Below w.heap.size w w' := by
  have o1 := ord0 x.p hs.1
  have o2 := ord0 x.n hs.2
  rw [if_pos c.1] at o1
  rw [if_pos c.2] at o2
  have hz := bs_size x.t
  unfold pv cpv
  generalize FB (x.p : Int) = P at *
  generalize FB (x.n : Int) = N at *
  generalize bs x.t = sb at *
  have t1 : (1 : Int) ≤ (sb.size : Int) := by omega
  have t2 : decide ((sb.size : Int) ≤ 4099) = false := decide_eq_false (by omega)
  clear h1
  clear hs c hz
  have L0 := Lib.hid ((Below.refl w.heap.size w).alloc (Nat.le_refl _) (.cells #[.complex .f64 P N, .string sb] 189))
  go_enter Tryz.func132, Tryz.ntmps132
  go_wp2
  go_ret
  exact ⟨rfl, L0.out⟩
set_option maxHeartbeats 1000000 in
theorem qright_copy (b : Nat) (x : Pz) (w : World) (r : Bool) (hs : small x) (c : ¬ x.raw) (C : Hid (∀ W, Calls Tryz.prog 118 #[pv x, .int .i64 (b : Int)] W fun e w' => (∃ a c : Int, e = .returned (.tuple #[.int .i64 a, .int .i64 c, .bool r])) ∧ Below W.heap.size W w')) :
    Calls Tryz.prog 132 #[pv x, .int .i64 (b : Int)] w fun e w' => e = .returned (.bool r) ∧ Below w.heap.size w w' := by
  have o1 := ord0 x.p hs.1
  have o2 := ord0 x.n hs.2
  unfold pv cpv at C ⊢
  have hc : ¬ (x.p = 0 ∧ x.n = 0) := c
  generalize FB (x.p : Int) = P at *
  generalize FB (x.n : Int) = N at *
  generalize bs x.t = sb at *
  have L0 := Lib.hid ((Below.refl w.heap.size w).alloc (Nat.le_refl _) (.cells #[.complex .f64 P N, .string sb] 189))
  by_cases c1 : x.p = 0
  · rw [if_pos c1] at o1
    rw [if_neg (by omega)] at o2
    clear hs c c1 hc
    go_enter Tryz.func132, Tryz.ntmps132
    go_wp2_with fail
    refine (C.out _).mono ?_
    rintro e w1 ⟨⟨a, c, rfl⟩, B1⟩
    have L1 := Lib.hid (L0.out.trans (B1.mono (by simp)))
    clear B1
    go_wp2
    go_ret
    exact ⟨rfl, L1.out⟩
  · rw [if_neg c1] at o1
    clear hs c c1 hc o2
    go_enter Tryz.func132, Tryz.ntmps132
    go_wp2_with fail
    refine (C.out _).mono ?_
    rintro e w1 ⟨⟨a, c, rfl⟩, B1⟩
    have L1 := Lib.hid (L0.out.trans (B1.mono (by simp)))
    clear B1
    go_wp2
    go_ret
    exact ⟨rfl, L1.out⟩
theorem dqright_any (b : Nat) (x : Pz) (w : World) (hb : b ≤ 4099) (hs : small x) : Calls Tryz.prog 132 #[pv x, .int .i64 (b : Int)] w fun e w' => e = .returned (.bool (decide (good b x))) ∧ Below w.heap.size w w' := by
  by_cases c : x.raw
  · have hg : good b x = (1 ≤ x.t.length ∧ x.t.length ≤ 4099) := by unfold good; rw [if_pos c]
    by_cases c1 : 1 ≤ x.t.length
    · by_cases c2 : x.t.length ≤ 4099
      · rw [decide_eq_true (by rw [hg]; exact ⟨c1, c2⟩)]; exact qright_raw b x w hs c c1 c2
      · rw [decide_eq_false (by rw [hg]; exact fun h => c2 h.2)]; exact qright_many b x w hs c (by omega)
    · rw [decide_eq_false (by rw [hg]; exact fun h => c1 h.1)]; exact qright_few b x w hs c c1
  · by_cases hg : good b x
    · rw [decide_eq_true hg]
      refine qright_copy b x w true hs c (Lib.hid fun W => (qcopy_yes b x W hb hs c hg).mono ?_)
      rintro e w' ⟨rfl, hB⟩
      exact ⟨⟨_, _, rfl⟩, hB⟩
    · rw [decide_eq_false hg]
      exact qright_copy b x w false hs c (Lib.hid fun W => qcopy_no b x W hb hs (fun h => hg h.2))
end Go.Proofs.YtnmjcpoobabjgaaGreatDoor
/- How many bytes pieces have, as the reference tells it. -/
namespace Go.Proofs.YtnmjcpoobabjgaaGreatDoor
set_option maxRecDepth 100000
open Go.RowKit
/- the answer: how many, the error -/
def chk (b : Nat) (l : List Pz) : Nat × Int := if ∀ x ∈ l, good b x then (if szs l ≤ 4099 then (szs l, 0) else (0, 19)) else (0, 1)
theorem chk_bad {b : Nat} {l : List Pz} {k : Nat} (hk : k < l.length) (h : ¬ good b (l.getD k zz)) : chk b l = (0, 1) := by
  unfold chk
  rw [if_neg (fun h2 => h (h2 _ (getD_mem l zz k hk)))]
theorem all_getD {b : Nat} {l : List Pz} (h : ∀ k, k < l.length → good b (l.getD k zz)) : ∀ x ∈ l, good b x := by
  intro x hx
  obtain ⟨k, hk, rfl⟩ := List.mem_iff_getElem.1 hx
  have := h k hk
  rw [List.getD_eq_getElem?_getD, List.getElem?_eq_getElem hk] at this
  exact this
theorem chk_great {b : Nat} {l : List Pz} (h : ∀ k, k < l.length → good b (l.getD k zz)) (k : Nat) (hk : 4099 < szs (l.take k)) : chk b l = (0, 19) := by
  unfold chk
  have := szs_take_le l k
  rw [if_pos (all_getD h), if_neg (by omega)]
theorem chk_ok {b : Nat} {l : List Pz} (h : ∀ k, k < l.length → good b (l.getD k zz)) (hk : szs (l.take l.length) ≤ 4099) : chk b l = (szs (l.take l.length), 0) := by
  rw [List.take_length] at *
  unfold chk
  rw [if_pos (all_getD h), if_pos hk]
set_option maxHeartbeats 4000000 in
theorem check_any' (b : Nat) (l : List Pz) (v : Value) (w : World) (hb : b ≤ 4099) (hR : RowZ w v l) (hs : ∀ x ∈ l, small x) (hl : l.length ≤ 100000) :
    Calls Tryz.prog 117 #[.int .i64 (b : Int), v] w fun e w' => e = .returned (.tuple #[.int .i64 ((chk b l).1 : Int), .int .i64 (chk b l).2]) ∧ Below w.heap.size w w' := by
  obtain ⟨ad, cap, rfl, hc⟩ := hR.cells
  have C1 : Hid (∀ k, k < l.length → ∀ W, Calls Tryz.prog 132 #[.agg #[cpv (l.getD k zz), .string (bs (l.getD k zz).t)], .int .i64 (b : Int)] W fun e w' => e = .returned (.bool (decide (good b (l.getD k zz)))) ∧ Below W.heap.size W w') := fun k hk W => dqright_any b (l.getD k zz) W hb (hs _ (getD_mem l zz k hk))
  have C2 : Hid (∀ k, k < l.length → ¬ (l.getD k zz).raw → good b (l.getD k zz) → ∀ W, Calls Tryz.prog 118 #[.agg #[cpv (l.getD k zz), .string (bs (l.getD k zz).t)], .int .i64 (b : Int)] W fun e w' => e = .returned (.tuple #[.int .i64 ((l.getD k zz).p : Int), .int .i64 ((l.getD k zz).n : Int), .bool true]) ∧ Below W.heap.size W w') := fun k hk h1 h2 W => qcopy_yes b (l.getD k zz) W hb (hs _ (getD_mem l zz k hk)) h1 h2
  have C3 : Hid (∀ k, k < l.length → (l.getD k zz).raw → ∀ W, Calls Tryz.prog 118 #[.agg #[cpv (l.getD k zz), .string (bs (l.getD k zz).t)], .int .i64 (b : Int)] W fun e w' => (∃ a c : Int, e = .returned (.tuple #[.int .i64 a, .int .i64 c, .bool false])) ∧ Below W.heap.size W w') := fun k hk h1 W => qcopy_no b (l.getD k zz) W hb (hs _ (getD_mem l zz k hk)) (fun h => h.1 h1)
  have HC := Lib.hid hc
  have HS : Hid (∀ k, k < l.length → szs (l.take (k + 1)) = szs (l.take k) + sz (l.getD k zz)) := fun k hk => by rw [take_next l zz k hk, szs_snoc]
  have HL := Lib.hid hl
  have t1 : ¬ (b : Int) < 0 := by omega
  have t2 : (b : Int) ≤ 4099 := by omega
  obtain ⟨R, hRR⟩ : ∃ R, R = chk b l := ⟨_, rfl⟩
  rw [← hRR]
  have HR := Lib.hid hRR
  clear hc hs hl hR hRR hb
  go_enter Tryz.func117, Tryz.ntmps117
  go_wp2
  go_loopw [6] (fun i wr => ∃ k : Nat, k ≤ l.length ∧ i = .int .i64 (k : Int) ∧ Hid (∀ j, j < k → good b (l.getD j zz)) ∧ Hid (Below w.heap.size w wr)) (fun i _ => l.length - (intOf i).toNat)
  case atStart => exact ⟨0, Nat.zero_le _, rfl, (fun j hj => by omega), Below.refl _ _⟩
  case round =>
    obtain ⟨k, hk, rfl, hG, hL⟩ := hrel
    by_cases hlt : k < l.length
    · obtain ⟨g, o, rfl, hgl, h0, h1⟩ := HC.out k hlt
      have c0 : wr.cell? ⟨g, o + k * 2, none⟩ = some (cpv (l.getD k zz)) := by rw [hL.out.cell hgl]; exact h0
      have c1 : wr.cell? ⟨g, o + k * 2 + 1, none⟩ = some (.string (bs (l.getD k zz).t)) := by rw [hL.out.cell hgl]; exact h1
      have D1 := Lib.hid (C1.out k hlt)
      have hl0 := HL.out
      have zk : (0 : Int) ≤ (k : Int) := by omega
      have yk : (k : Int) < (l.length : Int) := by omega
      have w5 : IntKind.i64.wrap ((k : Int) + 1) = (k : Int) + 1 := IntWalk.i64_in _ (by omega)
      have HB : Hid (¬ good b (l.getD k zz) → R = (0, 1)) := fun h => by rw [HR.out]; exact chk_bad hlt h
      have HG2 : Hid (good b (l.getD k zz) → ∀ j, j < k + 1 → good b (l.getD j zz)) := fun h j hj => by
        by_cases e : j = k
        · subst e; exact h
        · exact hG.out j (by omega)
      generalize hx : l.getD k zz = x at *
      unfold cpv at c0 D1
      generalize FB (x.p : Int) = P at *
      generalize FB (x.n : Int) = N at *
      generalize bs x.t = sb at *
      clear HC C1 C2 C3 HS hl0 h0 h1 hx
      by_cases hg : good b x
      · rw [decide_eq_true hg] at D1
        have G2 := Lib.hid (HG2.out hg)
        clear hg HB HG2 hG
        go_wp2_with fail
        refine (D1.out _).mono ?_
        rintro e w3 ⟨rfl, B3⟩
        have L3 := Lib.hid (hL.out.trans (B3.mono hL.out.size))
        clear B3 D1 hL c0 c1
        go_wp2
        go_roundw
        case rel => exact ⟨k + 1, by omega, by go_num, G2, L3⟩
        case measure => simp [intOf]; omega
      · rw [decide_eq_false hg] at D1
        have RB := Lib.hid (HB.out hg)
        clear hg HB HG2 hG
        go_wp2_with fail
        refine (D1.out _).mono ?_
        rintro e w3 ⟨rfl, B3⟩
        have L3 := Lib.hid (hL.out.trans (B3.mono hL.out.size))
        clear B3 D1 hL c0 c1
        go_wp2
        go_ret2
        exact ⟨by rw [RB.out]; rfl, L3.out⟩
    · have e : k = l.length := by omega
      subst e
      have HG : Hid (∀ k, k < l.length → R = (if h : 4099 < szs (l.take (k + 1)) then (0, 19) else R)) := fun k hk => by
        split
        · rename_i h; rw [HR.out]; exact chk_great hG.out (k + 1) h
        · rfl
      have HF : Hid (szs (l.take l.length) ≤ 4099 → R = (szs (l.take l.length), 0)) := fun h => by rw [HR.out]; exact chk_ok hG.out h
      go_wp2
      go_loopw [7, 8] (fun n i wr => ∃ k : Nat, k ≤ l.length ∧ i = .int .i64 (k : Int) ∧ n = .int .i64 (szs (l.take k) : Int) ∧ Hid (szs (l.take k) ≤ 4099) ∧ Hid (Below w.heap.size w wr)) (fun _ i _ => l.length - (intOf i).toNat)
      case atStart => exact ⟨0, Nat.zero_le _, rfl, rfl, (by show szs (l.take 0) ≤ 4099; rw [List.take_zero]; decide), hL⟩
      case round =>
        obtain ⟨k, hk, rfl, rfl, hM, hL⟩ := hrel
        by_cases hlt : k < l.length
        · obtain ⟨g, o, rfl, hgl, h0, h1⟩ := HC.out k hlt
          have c0 : wr.cell? ⟨g, o + k * 2, none⟩ = some (cpv (l.getD k zz)) := by rw [hL.out.cell hgl]; exact h0
          have c1 : wr.cell? ⟨g, o + k * 2 + 1, none⟩ = some (.string (bs (l.getD k zz).t)) := by rw [hL.out.cell hgl]; exact h1
          have D2 := C2.out k hlt
          have D3 := C3.out k hlt
          have hgood := hG.out k hlt
          have hz := sz_le hgood
          have S1 := HS.out k hlt
          have hM0 := hM.out
          have hl0 := HL.out
          have HGR := Lib.hid (HG.out k hlt)
          have zk : (0 : Int) ≤ (k : Int) := by omega
          have yk : (k : Int) < (l.length : Int) := by omega
          have w5 : IntKind.i64.wrap ((k : Int) + 1) = (k : Int) + 1 := IntWalk.i64_in _ (by omega)
          have ht := bs_size (l.getD k zz).t
          have hsz : sz (l.getD k zz) = if (l.getD k zz).raw then (l.getD k zz).t.length else (l.getD k zz).n := rfl
          generalize hx : l.getD k zz = x at *
          unfold cpv at c0 D2 D3
          generalize FB (x.p : Int) = P at *
          generalize FB (x.n : Int) = N at *
          generalize bs x.t = sb at *
          generalize hA : szs (l.take (k + 1)) = A at *
          generalize szs (l.take k) = A0 at *
          have HA := Lib.hid hA
          have HGL := Lib.hid hgl
          have H1 := Lib.hid h1
          clear HC C1 C2 C3 HS hl0 h0 h1 hx HG HF hG hA hgl
          by_cases cr : x.raw
          · rw [if_pos cr] at hsz
            have D1 := Lib.hid (D3 cr)
            have w6 : IntKind.i64.wrap ((A0 : Int) + (sb.size : Int)) = (A : Int) := by rw [S1, hsz, ht]; exact IntWalk.i64_in _ (by omega)
            clear D2 D3 cr hgood hz S1 hsz ht
            by_cases cA : A ≤ 4099
            · have HB1 : Hid (A ≤ 4099) := cA
              have t5 : (A : Int) ≤ 4099 := by omega
              clear cA HGR
              go_wp2_with fail
              refine (D1.out _).mono ?_
              rintro e w3 ⟨⟨a, c, rfl⟩, B3⟩
              have LZ := Lib.hid (hL.out.trans (B3.mono hL.out.size))
              have d1 : w3.cell? ⟨g, o + k * 2 + 1, none⟩ = some (.string sb) := by rw [LZ.out.cell HGL.out]; exact H1.out
              clear B3 D1 hL c0 c1
              go_wp2
              go_roundw
              case rel => exact ⟨k + 1, by omega, by go_num, by rw [HA.out], by show szs (l.take (k + 1)) ≤ 4099; rw [HA.out]; exact HB1.out, LZ⟩
              case measure => simp [intOf]; omega
            · have HB1 : Hid (R = (0, 19)) := by
                have := HGR.out
                rw [dif_pos (by omega)] at this
                exact this
              have t5 : (4099 : Int) < (A : Int) := by omega
              clear cA HGR
              go_wp2_with fail
              refine (D1.out _).mono ?_
              rintro e w3 ⟨⟨a, c, rfl⟩, B3⟩
              have LZ := Lib.hid (hL.out.trans (B3.mono hL.out.size))
              have d1 : w3.cell? ⟨g, o + k * 2 + 1, none⟩ = some (.string sb) := by rw [LZ.out.cell HGL.out]; exact H1.out
              clear B3 D1 hL c0 c1
              go_wp2
              go_ret2
              exact ⟨by rw [HB1.out]; rfl, LZ.out⟩
          · rw [if_neg cr] at hsz
            have D1 := Lib.hid (D2 cr hgood)
            have w6 : IntKind.i64.wrap ((A0 : Int) + (x.n : Int)) = (A : Int) := by rw [S1, hsz]; exact IntWalk.i64_in _ (by omega)
            clear D2 D3 cr hgood hz S1 hsz ht
            by_cases cA : A ≤ 4099
            · have HB1 : Hid (A ≤ 4099) := cA
              have t5 : (A : Int) ≤ 4099 := by omega
              clear cA HGR
              go_wp2_with fail
              refine (D1.out _).mono ?_
              rintro e w3 ⟨rfl, B3⟩
              have LZ := Lib.hid (hL.out.trans (B3.mono hL.out.size))
              clear B3 D1 hL c0 c1
              go_wp2
              go_roundw
              case rel => exact ⟨k + 1, by omega, by go_num, by rw [HA.out], by show szs (l.take (k + 1)) ≤ 4099; rw [HA.out]; exact HB1.out, LZ⟩
              case measure => simp [intOf]; omega
            · have HB1 : Hid (R = (0, 19)) := by
                have := HGR.out
                rw [dif_pos (by omega)] at this
                exact this
              have t5 : (4099 : Int) < (A : Int) := by omega
              clear cA HGR
              go_wp2_with fail
              refine (D1.out _).mono ?_
              rintro e w3 ⟨rfl, B3⟩
              have LZ := Lib.hid (hL.out.trans (B3.mono hL.out.size))
              clear B3 D1 hL c0 c1
              go_wp2
              go_ret2
              exact ⟨by rw [HB1.out]; rfl, LZ.out⟩
        · have e : k = l.length := by omega
          subst e
          have RF := Lib.hid (HF.out hM.out)
          clear HC C1 C2 C3 HS HG HF hG
          go_wp2
          go_ret2
          exact ⟨by rw [RF.out]; rfl, hL.out⟩
end Go.Proofs.YtnmjcpoobabjgaaGreatDoor
/- The text of pieces, the reference's. -/
namespace Go.Proofs.YtnmjcpoobabjgaaGreatDoor
set_option maxRecDepth 100000
open Go.RowKit
set_option maxHeartbeats 4000000 in
theorem dqtext_any (B : List UInt8) (l : List Pz) (v : Value) (w : World) (hb : B.length ≤ 4099) (hR : RowZ w v l) (hg : ∀ x ∈ l, good B.length x) (hs : ∀ x ∈ l, small x) (hsz : szs l ≤ 4099) :
    Calls Tryz.prog 94 #[.string (bs B), v] w fun e w' => e = .returned (.tuple #[.string (bs (tzs B l)), .int .i64 0]) ∧ Below w.heap.size w w' := by
  have hzB := bs_size B
  have hchk : chk B.length l = (szs l, 0) := by unfold chk; rw [if_pos hg, if_pos hsz]
  have hge := szs_ge hg
  have C0 : Hid (∀ W, RowZ W v l → Calls Tryz.prog 117 #[.int .i64 ((bs B).size : Int), v] W fun e w' => e = .returned (.tuple #[.int .i64 (szs l : Int), .int .i64 0]) ∧ Below W.heap.size W w') := fun W h => by
    have := check_any' B.length l v W hb h hs (by omega)
    rw [hchk] at this
    rw [hzB]
    exact this
  have HR := Lib.hid hR
  obtain ⟨ad, cap, rfl, hc⟩ := hR.cells
  have C2 : Hid (∀ k, k < l.length → ¬ (l.getD k zz).raw → ∀ W, Calls Tryz.prog 118 #[.agg #[cpv (l.getD k zz), .string (bs (l.getD k zz).t)], .int .i64 ((bs B).size : Int)] W fun e w' => e = .returned (.tuple #[.int .i64 ((l.getD k zz).p : Int), .int .i64 ((l.getD k zz).n : Int), .bool true]) ∧ Below W.heap.size W w') := fun k hk h1 W => by
    rw [hzB]
    exact qcopy_yes B.length (l.getD k zz) W hb (hs _ (getD_mem l zz k hk)) h1 (hg _ (getD_mem l zz k hk))
  have C3 : Hid (∀ k, k < l.length → (l.getD k zz).raw → ∀ W, Calls Tryz.prog 118 #[.agg #[cpv (l.getD k zz), .string (bs (l.getD k zz).t)], .int .i64 ((bs B).size : Int)] W fun e w' => (∃ a c : Int, e = .returned (.tuple #[.int .i64 a, .int .i64 c, .bool false])) ∧ Below W.heap.size W w') := fun k hk h1 W => by
    rw [hzB]
    exact qcopy_no B.length (l.getD k zz) W hb (hs _ (getD_mem l zz k hk)) (fun h => h.1 h1)
  have HC := Lib.hid hc
  have HG : Hid (∀ k, k < l.length → good B.length (l.getD k zz)) := fun k hk => hg _ (getD_mem l zz k hk)
  have HS : Hid (∀ k, k < l.length → tzs B (l.take (k + 1)) = tzs B (l.take k) ++ tz B (l.getD k zz)) := fun k hk => by rw [take_next l zz k hk, tzs_snoc]
  have HM : Hid (∀ k, (tzs B (l.take k)).length ≤ 4099) := fun k => by rw [tzs_take_len hg rfl]; exact Nat.le_trans (szs_take_le l k) hsz
  have HL : Hid (l.length ≤ 4099) := Nat.le_trans hge hsz
  have HE : Hid (tzs B (l.take l.length) = tzs B l) := by show _ = _; rw [List.take_length]
  have HZ : Hid ((bs B).size = B.length) := bs_size B
  have HX : Hid (∀ p n, (bs B).extract p (p + n) = bs ((B.drop p).take n)) := slice_bs B
  have HB := Lib.hid hb
  have H00 : Hid ((⟨#[]⟩ : ByteArray) = bs (tzs B (l.take 0))) := by show _ = _; rw [List.take_zero]; rfl
  clear hc hg hs hsz hR hb hzB hchk hge
  generalize bs B = sB at *
  go_enter Tryz.func94, Tryz.ntmps94
  go_wp2_with fail
  refine (C0.out _ HR.out).mono ?_
  rintro e w1 ⟨rfl, B1⟩
  have L1 := Lib.hid B1
  clear B1 C0 HR
  go_wp2
  go_loopw [8, 9] (fun q i wr => ∃ (k : Nat) (sa : ByteArray), k ≤ l.length ∧ i = .int .i64 (k : Int) ∧ q = .string sa ∧ Hid (sa = bs (tzs B (l.take k))) ∧ Hid (Below w.heap.size w wr)) (fun _ i _ => l.length - (intOf i).toNat)
  case atStart => exact ⟨0, _, Nat.zero_le _, rfl, rfl, H00, L1⟩
  case round =>
    obtain ⟨k, sa, hk, rfl, rfl, hA, hL⟩ := hrel
    clear H00 L1
    by_cases hlt : k < l.length
    · obtain ⟨g, o, rfl, hgl, h0, h1⟩ := HC.out k hlt
      have c0 : wr.cell? ⟨g, o + k * 2, none⟩ = some (cpv (l.getD k zz)) := by rw [hL.out.cell hgl]; exact h0
      have c1 : wr.cell? ⟨g, o + k * 2 + 1, none⟩ = some (.string (bs (l.getD k zz).t)) := by rw [hL.out.cell hgl]; exact h1
      have D2 := C2.out k hlt
      have D3 := C3.out k hlt
      have S1 := HS.out k hlt
      have G1 := HG.out k hlt
      have M1 := HM.out (k + 1)
      have hl0 := HL.out
      have hB0 := HB.out
      have hZ0 := HZ.out
      have zk : (0 : Int) ≤ (k : Int) := by omega
      have yk : (k : Int) < (l.length : Int) := by omega
      have w1' : IntKind.i64.wrap ((k : Int) + 1) = (k : Int) + 1 := IntWalk.i64_in _ (by omega)
      have hsa : sa.size = (tzs B (l.take k)).length := by rw [hA.out, bs_size]
      generalize hx : l.getD k zz = x at *
      have ht : tz B x = if x.raw then x.t else (B.drop x.p).take x.n := rfl
      have zt := bs_size x.t
      have zl := tz_len G1 rfl
      have zs : sz x = if x.raw then x.t.length else x.n := rfl
      rw [S1, List.length_append] at M1
      clear C2 C3 HC HS HG HM HE h0 hx hl0
      by_cases cr : x.raw
      · rw [if_pos cr] at ht zs
        have D1 := Lib.hid (D3 cr)
        have hcat : sa ++ bs x.t = bs (tzs B (l.take (k + 1))) := by rw [S1, hA.out, bs_append, ht]
        have hbig : ¬ (9223372036854775807 < sa.size + (bs x.t).size) := by rw [zt]; omega
        generalize hQ : bs (tzs B (l.take (k + 1))) = sa2 at hcat
        have HQ := Lib.hid hQ
        unfold cpv at c0 D1
        generalize FB (x.p : Int) = P at *
        generalize FB (x.n : Int) = N at *
        generalize bs x.t = sb at *
        have HGL := Lib.hid hgl
        have H1 := Lib.hid h1
        clear D2 D3 S1 G1 M1 hB0 hZ0 hsa ht zt zl zs cr hQ hgl h1 hA hk
        go_wp2_with fail
        refine (D1.out _).mono ?_
        rintro e w3 ⟨⟨a, c, rfl⟩, B3⟩
        have L3 := Lib.hid (hL.out.trans (B3.mono hL.out.size))
        have d1 : w3.cell? ⟨g, o + k * 2 + 1, none⟩ = some (.string sb) := by rw [L3.out.cell HGL.out]; exact H1.out
        clear B3 D1 hL c0 c1
        go_wp2
        go_roundw
        case rel => exact ⟨k + 1, _, by omega, by go_num, rfl, HQ.out.symm, L3⟩
        case measure => simp [intOf]; omega
      · rw [if_neg cr] at ht zs
        have hg2 : x.p + x.n ≤ B.length := by
          unfold good at G1
          rw [if_neg cr] at G1
          exact G1.2.2.2
        have D1 := Lib.hid (D2 cr)
        have hcat : sa ++ sB.extract x.p (x.p + x.n) = bs (tzs B (l.take (k + 1))) := by rw [S1, hA.out, HX.out, bs_append, ht]
        have hsz : (sB.extract x.p (x.p + x.n)).size = x.n := by rw [HX.out, bs_size, ← ht, zl, zs]
        have hbig : ¬ (9223372036854775807 < sa.size + x.n) := by omega
        have z1 : (0 : Int) ≤ (x.p : Int) := by omega
        have z2 : (x.p : Int) ≤ (x.p : Int) + (x.n : Int) := by omega
        have z3 : (x.p : Int) + (x.n : Int) ≤ (sB.size : Int) := by omega
        have w5 : IntKind.i64.wrap ((x.p : Int) + (x.n : Int)) = (x.p : Int) + (x.n : Int) := IntWalk.i64_in _ (by omega)
        have e5 : ((x.p : Int) + (x.n : Int)).toNat = x.p + x.n := by omega
        generalize hQ : bs (tzs B (l.take (k + 1))) = sa2 at hcat
        have HQ := Lib.hid hQ
        unfold cpv at c0 D1
        generalize FB (x.p : Int) = P at *
        generalize FB (x.n : Int) = N at *
        generalize bs x.t = sb at *
        clear D2 D3 S1 G1 M1 hB0 hZ0 hsa ht zt zl zs cr hQ hgl h1 hA hk hg2
        go_wp2_with fail
        refine (D1.out _).mono ?_
        rintro e w3 ⟨rfl, B3⟩
        have L3 := Lib.hid (hL.out.trans (B3.mono hL.out.size))
        clear B3 D1 hL c0 c1
        go_wp2
        go_roundw
        case rel => exact ⟨k + 1, _, by omega, by go_num, rfl, HQ.out.symm, L3⟩
        case measure => simp [intOf]; omega
    · have e : k = l.length := by omega
      subst e
      have e2 : sa = bs (tzs B l) := by rw [hA.out, HE.out]
      subst e2
      clear C2 C3 HC HG HS HM HX HZ
      go_wp2
      go_ret2
      exact ⟨rfl, hL.out⟩
end Go.Proofs.YtnmjcpoobabjgaaGreatDoor
/- What a delta's bytes say, the reference's. -/
namespace Go.Proofs.YtnmjcpoobabjgaaGreatDoor
set_option maxRecDepth 100000
open Go.RowKit
attribute [local go_sem] run_store_complex
def QSaid (o : Option (Nat × List Pz)) (B : Nat) (e : Ending) (w' : World) : Prop :=
 match o with
 | none => e = .returned (.tuple #[.int .i64 0, .slice none 0 0, .bool false])
 | some x => ∃ v, e = .returned (.tuple #[.int .i64 (x.1 : Int), v, .bool true]) ∧ OwnZ w' B v x.2
def rqM (n : Nat) (w : World) (r : Nat) : Nat :=
 match w.cell? ⟨r, 1, none⟩, w.cell? ⟨r, 2, none⟩ with
 | some (.int _ p), some (.int _ e) => if e = 0 then n + 1 - p.toNat else 0
 | _, _ => 0
theorem rqM_of8 {w : World} {r : Nat} {l : List UInt8} {p : Nat} {e : Int} (h : Rq w r l p e) (n : Nat) : rqM n w r = if e = 0 then n + 1 - p else 0 := by
 unfold rqM
 rw [h.cells.2.1, h.cells.2.2.1]
 simp
structure QS8 (R : Option (List Pz)) (b many : Nat) (d : List UInt8) (r z : Nat) (w : World) (l : List Pz) (v : Value) (p : Nat) (e : Int) (wr : World) : Prop where
 rd : Rq wr r d p e
 le : p ≤ d.length
 five : e ≠ 5
 iq : IQ R b d many l p e
 own : OwnZ wr z v l
 few : l.length ≤ p + (if e = 0 then 0 else 1)
 all : Below w.heap.size w wr
 zle : z ≤ wr.heap.size
 sm : ∀ x ∈ l, small x
/- between a piece read and one put behind -/
def QT (d : List UInt8) (r z : Nat) (w : World) (l : List Pz) (v : Value) (p : Nat) (e : Int) (W : World) : Prop := Rq W r d p e ∧ OwnZ W z v l ∧ Below w.heap.size w W ∧ z ≤ W.heap.size
theorem QT.below {d : List UInt8} {r z : Nat} {w : World} {l : List Pz} {v : Value} {p : Nat} {e : Int} {W W' : World} (h : QT d r z w l v p e W) (hb : Below W.heap.size W W') : QT d r z w l v p e W' :=
 ⟨h.1.keep (Keep.all (K := fun _ => True) hb) trivial, h.2.1.all hb, h.2.2.1.trans (hb.mono h.2.2.1.size), Nat.le_trans h.2.2.2 hb.size⟩
theorem QT.read {d : List UInt8} {r z : Nat} {w : World} {l : List Pz} {v : Value} {p : Nat} {e : Int} {wr W : World} {p' : Nat} {e' : Int} (h : QT d r z w l v p e wr) (hr : w.heap.size ≤ r ∧ r < z) (hR : Rq W r d p' e') (hk : Keep (fun k => k ≠ r) wr W) : QT d r z w l v p' e' W :=
 ⟨hR, owns_keep h.2.1 hk (fun g hg => by have := own_lt h.2.1 hg; show g ≠ r; omega), h.2.2.1.trans ⟨hk.os, hk.tape, hk.output, hk.size, fun j hj => hk.block j (by show j ≠ r; omega) (Nat.lt_of_lt_of_le hj h.2.2.1.size)⟩, Nat.le_trans h.2.2.2 hk.size⟩
theorem size_set (w : World) (a : Addr) (u : Value) : (w.setCell a u).heap.size = w.heap.size := by simp [World.setCell]
theorem QT.set {d : List UInt8} {r z : Nat} {w : World} {l : List Pz} {v : Value} {p : Nat} {e : Int} {W : World} (h : QT d r z w l v p e W) {q o : Nat} (u : Value) (hq : q ≠ r) (hq2 : w.heap.size ≤ q) (hq3 : v.ownBlock ≠ some q) : QT d r z w l v p e (W.setCell ⟨q, o, none⟩ u) := by
 refine ⟨h.1.keep ((Keep.refl (fun k => k = r) W).setCell hq u) rfl, owns_keep h.2.1 ((Keep.refl (fun k => k ≠ q) W).setCell (fun hn => hn rfl) u) (fun g hg => ?_), h.2.2.1.setCell (p := ⟨q, o, none⟩) hq2 u, ?_⟩
 ·intro hn
  subst hn
  exact hq3 hg
 ·simp [World.setCell]; exact h.2.2.2
set_option maxHeartbeats 1000000 in
theorem dqread_any (d : List UInt8) (w : World) (hl : d.length ≤ 50000) :
  Calls Tryz.prog 93 #[.string (bs d)] w fun e w' => QSaid (dRead d) w.heap.size e w' ∧ Below w.heap.size w w' := by
 obtain ⟨b, p1, e1, h1⟩ : ∃ b p1 e1, rNum 4099 d 0 0 = (b, p1, e1) := ⟨_, _, _, rfl⟩
 obtain ⟨many, p2, e2, h2⟩ : ∃ many p2 e2, rNum 4099 d p1 e1 = (many, p2, e2) := ⟨_, _, _, rfl⟩
 have l1 : p1 ≤ d.length := by have := rNum_le 4099 d 0 0 (Nat.zero_le _); rw [h1] at this; exact this
 have l2 : p2 ≤ d.length := by have := rNum_le 4099 d p1 e1 l1; rw [h2] at this; exact this
 have f1 : e1 ≠ 5 := by have := num_five 4099 d 0 0 (by decide); rw [h1] at this; exact this
 have f2 : e2 ≠ 5 := by have := num_five 4099 d p1 e1 f1; rw [h2] at this; exact this
 have v1 : b ≤ 4099 := by have := (num_value 4099 d 0 (by decide)).1; rw [h1] at this; dsimp only at this; omega
 have v2 : many ≤ 4099 := by
  by_cases c : e1 = 0
  ·subst c; have := (num_value 4099 d p1 (by decide)).1; rw [h2] at this; dsimp only at this; omega
  ·rw [num_err c] at h2; simp only [Prod.mk.injEq] at h2; omega
 have C1 : Hid (∀ W r, Rq W r d 0 0 → Calls Tryz.prog 66 #[.pointer (some ⟨r, 0, none⟩), .int .i64 4099] W fun v w' => v = .returned (.int .i64 (b : Int)) ∧ Rq w' r d p1 e1 ∧ Keep (fun k => k ≠ r) W w') := fun W r hW => by
  have := qnum_any 4099 hW (Nat.zero_le _) (by omega)
  rw [h1] at this; exact this
 have C2 : Hid (∀ W r, Rq W r d p1 e1 → Calls Tryz.prog 66 #[.pointer (some ⟨r, 0, none⟩), .int .i64 4099] W fun v w' => v = .returned (.int .i64 (many : Int)) ∧ Rq w' r d p2 e2 ∧ Keep (fun k => k ≠ r) W w') := fun W r hW => by
  have := qnum_any 4099 hW l1 (by omega)
  rw [h2] at this; exact this
 have RR : dRead d = if e2 = 0 then (prs b d p2 many).map (fun l => (b, l)) else none := by unfold dRead; rw [h1]; dsimp only; rw [h2]
 rw [RR]
 have HIP : ∃ R, IQ R b d many [] p2 e2 ∧ (if e2 = 0 then (prs b d p2 many).map (fun l => (b, l)) else none) = R.map (fun l => (b, l)) := by
  by_cases c : e2 = 0
  ·subst c
   exact ⟨_, IQ.start b d p2 many, by rw [if_pos rfl]⟩
  ·exact ⟨none, by unfold IQ; rw [if_neg c], by rw [if_neg c]; rfl⟩
 obtain ⟨R, hIQ, hR⟩ := HIP
 rw [hR]
 have HI := Lib.hid hIQ
 have H2 := Lib.hid (And.intro l2 (And.intro f2 (And.intro v1 (And.intro v2 hl))))
 have R0 : Hid (Rq (w.alloc (.cells #[.string (bs d), .int .i64 0, .int .i64 0] 108)) w.heap.size d 0 0) := heap_alloc_new _ _
 have hzd := bs_size d
 clear hIQ hR RR h1 h2 l1 l2 f1 f2 v1 v2
 generalize bs d = sb at *
 go_enter Tryz.func93, Tryz.ntmps93
 go_wp2_with fail
 refine (C1.out _ _ R0.out).mono ?_
 rintro e w2 ⟨rfl, R2, K2⟩
 have HR2 := Lib.hid R2
 have HK2 := Lib.hid K2
 clear R2 K2 C1 R0
 go_wp2_with fail
 refine (C2.out _ _ HR2.out).mono ?_
 rintro e w3 ⟨rfl, R3, K3⟩
 have T0 : Hid (QS8 R b many d w.heap.size (w.heap.size + 1) w [] (.slice none 0 0) p2 e2 w3) := by
  have k := HK2.out.trans K3
  have z0 : (w.alloc (.cells #[.string sb, .int .i64 0, .int .i64 0] 108)).heap.size = w.heap.size + 1 := by simp
  have k2 := k.size
  rw [z0] at k2
  exact ⟨R3, H2.out.1, H2.out.2.1, HI.out, OwnZ.nil _ _, by simp, ((Below.refl w.heap.size w).alloc (Nat.le_refl _) _).trans ⟨k.os, k.tape, k.output, k.size, fun j hj => k.block j (by show j ≠ _; omega) (by omega)⟩, k2, fun x hx => by simp at hx⟩
 clear R3 K3 C2 HR2 HK2 HI
 go_wp2
 go_loopw [8] (fun u wr => ∃ (l : List Pz) (v : Value) (p : Nat) (e : Int), v = u ∧ Hid (QS8 R b many d w.heap.size (w.heap.size + 1) w l v p e wr)) (fun _ wr => rqM d.length wr w.heap.size)
 case atStart => exact ⟨_, _, _, _, rfl, T0⟩
 case round =>
  obtain ⟨l, v, p, e, rfl, hT⟩ := hrel
  clear T0
  obtain ⟨-, c1, c2, -, -⟩ := hT.out.rd.cells
  have hl0 := H2.out.2.2.2.2
  have hle := hT.out.le
  by_cases h5 : e = 0 ∧ p < d.length
  ·obtain ⟨rfl, hp⟩ := h5
   have HP := Lib.hid hp
   have yk : (p : Int) < (sb.size : Int) := by omega
   obtain ⟨k, q1, g1, hk⟩ : ∃ k q1 g1, rNum 8199 d p 0 = (k, q1, g1) := ⟨_, _, _, rfl⟩
   have hk2 := num_value 8199 d p (by decide)
   have lq1 := rNum_le 8199 d p 0 hle
   rw [hk] at hk2 lq1
   dsimp only at hk2 lq1
   have D1 : Hid (∀ W, Rq W w.heap.size d p 0 → Calls Tryz.prog 66 #[.pointer (some ⟨w.heap.size, 0, none⟩), .int .i64 8199] W fun v w' => v = .returned (.int .i64 (k : Int)) ∧ Rq w' w.heap.size d q1 g1 ∧ Keep (fun k => k ≠ w.heap.size) W w') := fun W hW => by
    have := qnum_any 8199 hW hle (by omega)
    rw [hk] at this; exact this
   obtain ⟨x, p', e', hx⟩ : ∃ x p' e', rpz 8199 4099 d p 0 = (x, p', e') := ⟨_, _, _, rfl⟩
   have hsm : small x := by have := rpz_smallp 8199 4099 (by decide) (by decide) d p 0; rw [hx] at this; exact this
   have M0 : Hid (rqM d.length wr w.heap.size = d.length + 1 - p) := by show _ = _; rw [rqM_of8 hT.out.rd, if_pos rfl]
   have le' : p' ≤ d.length := by have := rpz_le 8199 4099 d p 0 hle; rw [hx] at this; exact this
   have fv' : e' ≠ 5 := by have := rpz_five 8199 4099 d p 0 (by decide); rw [hx] at this; exact this
   have mv : e' = 0 → p < p' := fun c => by
    have := rpz_moves (m1 := 8199) (m2 := 4099) (d := d) (p := p) (by rw [hx]; exact c)
    rw [hx] at this; exact this
   have few := hT.out.few
   rw [if_pos rfl] at few
   have ge' : p ≤ p' := by
    by_cases c : e' = 0
    ·have := mv c; omega
    ·have hpos : p ≤ p' := by
      have hq : p ≤ q1 := by
       have hm := @num_moves 8199 d p
       by_cases c2 : g1 = 0
       ·rw [hk] at hm; have := hm c2; dsimp only at this; omega
       ·unfold rNum at hk
        rw [if_neg (by simp)] at hk
        split at hk
        ·simp only [Prod.mk.injEq] at hk; omega
        ·simp only [Prod.mk.injEq] at hk; omega
      have hx2 := hx
      unfold rpz at hx2
      rw [hk] at hx2
      dsimp only at hx2
      split at hx2
      ·have h3 := congrArg (fun y => y.2.1) hx2
       dsimp only at h3
       unfold rRaw at h3
       split at h3
       ·dsimp only at h3; omega
       ·split at h3
        ·dsimp only at h3; omega
        ·split at h3
         ·dsimp only at h3; omega
         ·dsimp only at h3; omega
      ·have h3 := congrArg (fun y => y.2.1) hx2
       dsimp only at h3
       unfold rNum at h3
       split at h3
       ·dsimp only at h3; omega
       ·split at h3
        ·dsimp only at h3; omega
        ·dsimp only at h3; omega
     exact hpos
   have AP : Hid (∀ W, OwnZ W (w.heap.size + 1) v l → w.heap.size + 1 ≤ W.heap.size → ∃ g cap w', (Builtin.append_ #[159, 159] 159 #[v, .slice (some ⟨W.heap.size, 0, none⟩) 1 1]).run Tryz.prog (W.alloc (.cells #[cpv x, .string (bs x.t)] 189)) = .ok (.slice (some ⟨g, 0, none⟩) (l.length + 1) cap) w' ∧
    OwnZ w' (w.heap.size + 1) (.slice (some ⟨g, 0, none⟩) (l.length + 1) cap) (l ++ [x]) ∧ Below (w.heap.size + 1) W w') := fun W h1 h2 => app_z x h1 h2 (by omega)
   /- what stands behind the append -/
   have END : Hid (∀ W g cap w', QT d w.heap.size (w.heap.size + 1) w l v p' e' W → OwnZ w' (w.heap.size + 1) (.slice (some ⟨g, 0, none⟩) (l.length + 1) cap) (l ++ [x]) → Below (w.heap.size + 1) W w' →
     QS8 R b many d w.heap.size (w.heap.size + 1) w (l ++ [x]) (.slice (some ⟨g, 0, none⟩) (l.length + 1) cap) p' e' w' ∧ rqM d.length w' w.heap.size < rqM d.length wr w.heap.size) := fun W g cap w' hQ hO hB => by
    have hrd : Rq w' w.heap.size d p' e' := hQ.1.keep (Keep.of_below (K := fun k => k = w.heap.size) hB (fun k hk _ => by omega)) rfl
    refine ⟨⟨hrd, le', fv', hT.out.iq.step H2.out.2.2.1 HP.out hx, hO, ?_, hQ.2.2.1.trans (hB.mono (by omega)), Nat.le_trans hQ.2.2.2 hB.size, fun y hy => ?_⟩, ?_⟩
    ·rw [List.length_append, List.length_singleton]
     by_cases c : e' = 0
     ·rw [if_pos c]; have := mv c; omega
     ·rw [if_neg c]; omega
    ·rcases List.mem_append.1 hy with hy | hy
     ·exact hT.out.sm y hy
     ·simp only [List.mem_singleton] at hy
      subst hy; exact hsm
    ·rw [M0.out, rqM_of8 hrd]
     by_cases c : e' = 0
     ·rw [if_pos c]; have := mv c; omega
     ·rw [if_neg c]; omega
   have T1 : Hid (QT d w.heap.size (w.heap.size + 1) w l v p 0 wr) := ⟨hT.out.rd, hT.out.own, hT.out.all, hT.out.zle⟩
   have RX : rpz 8199 4099 d p 0 = if k % 2 = 0 then (⟨0, 0, (rRaw (k / 2 : Nat) d q1 g1).1⟩, (rRaw (k / 2 : Nat) d q1 g1).2) else (⟨(rNum 4099 d q1 g1).1, k / 2, []⟩, (rNum 4099 d q1 g1).2) := by unfold rpz; rw [hk]
   rw [hx] at RX
   clear hk hx hsm M0 le' fv' mv few ge' hT
   go_wp2_with fail
   refine (D1.out _ T1.out.1).mono ?_
   rintro v' w4 ⟨rfl, R4, K4⟩
   have T4 := Lib.hid (T1.out.read ⟨Nat.le_refl _, Nat.lt_succ_self _⟩ R4 K4)
   clear R4 K4 D1 T1 c1 c2
   have ob : Hid (∀ g, v.ownBlock = some g → g < w4.heap.size) := fun g hg => (own_lt T4.out.2.1 hg).2
   have T5 := Lib.hid (T4.out.below ((Below.refl w4.heap.size w4).alloc (Nat.le_refl _) (.cells #[.complex .f64 0 0, .string ⟨#[]⟩] 189)))
   have ZW : Hid (w.heap.size < w4.heap.size) := by have := T4.out.2.2.2; show _ < _; omega
   have b5 : Hid ((w4.alloc (.cells #[.complex .f64 0 0, .string ⟨#[]⟩] 189)).heap[w4.heap.size]? = some (.cells #[.complex .f64 0 0, .string ⟨#[]⟩] 189 (0, 0))) := heap_alloc_new _ _
   by_cases c : k % 2 = 0
   ·rw [if_pos c] at RX
    have w6 : ¬ (k : Int).tmod 2 = 1 := by rw [Int.tmod_eq_emod_of_nonneg (by omega)]; omega
    have D2 : Hid (∀ y : Int, y = ((k / 2 : Nat) : Int) → ∀ W, Rq W w.heap.size d q1 g1 → Calls Tryz.prog 77 #[.pointer (some ⟨w.heap.size, 0, none⟩), .int .i64 y] W fun v w' => v = .returned (.string (bs (rRaw (k / 2 : Nat) d q1 g1).1)) ∧ Rq w' w.heap.size d (rRaw (k / 2 : Nat) d q1 g1).2.1 (rRaw (k / 2 : Nat) d q1 g1).2.2 ∧ Keep (fun k => k ≠ w.heap.size) W w') := fun y hy W hW => by
     subst hy
     exact qraw_any ((k / 2 : Nat) : Int) hW lq1 (by omega)
    generalize rRaw ((k / 2 : Nat) : Int) d q1 g1 = A at *
    simp only [Prod.mk.injEq] at RX
    obtain ⟨rfl, ra⟩ := RX
    have e0 : cpv ⟨0, 0, A.1⟩ = .complex .f64 0 0 := by
     show Value.complex .f64 (FB 0) (FB 0) = _
     rw [FB_0]
    rw [e0] at AP
    dsimp only at AP
    have ea : A.2.1 = p' ∧ A.2.2 = e' := by rw [← ra]; exact ⟨rfl, rfl⟩
    rw [ea.1, ea.2] at D2
    generalize bs A.1 = sx at *
    clear e0 ea ra
    have hk3 := hk2.2
    clear hk2
    go_wp2_with fail
    refine (D2.out _ (by omega) _ T5.out.1).mono ?_
    rintro v' w5 ⟨rfl, R5, K5⟩
    have b6 : w5.heap[w4.heap.size]? = some (.cells #[.complex .f64 0 0, .string ⟨#[]⟩] 189 (0, 0)) := K5.at (by have := ZW.out; show w4.heap.size ≠ _; omega) b5.out
    have T6 : Hid (QT d w.heap.size (w.heap.size + 1) w l v p' e' (w5.setCell ⟨w4.heap.size, 1, none⟩ (.string sx))) :=
     (T5.out.read ⟨Nat.le_refl _, Nat.lt_succ_self _⟩ R5 K5).set _ (by have := ZW.out; omega) (by have := ZW.out; omega) (fun h => by have := ob.out _ h; omega)
    have s6 := heap_setCell_same w5 w4.heap.size 1 _ 189 (.string sx) b6
    have d0 := cell_of_row w5 w4.heap.size 0 _ _ _ b6
    have d1 := cell_of_row w5 w4.heap.size 1 _ _ _ b6
    have f1 := frozen_of_row w5 w4.heap.size 1 _ _ b6
    have s0 : (w5.setCell ⟨w4.heap.size, 1, none⟩ (.string sx)).cell? ⟨w4.heap.size, 0, none⟩ = some (.complex .f64 0 0) := cell_of_row _ w4.heap.size 0 _ _ _ s6
    have s1 : (w5.setCell ⟨w4.heap.size, 1, none⟩ (.string sx)).cell? ⟨w4.heap.size, 1, none⟩ = some (.string sx) := cell_of_row _ w4.heap.size 1 _ _ _ s6
    obtain ⟨g, cap, w7, hr, O7, L7⟩ := AP.out _ T6.out.2.1 T6.out.2.2.2
    rw [size_set] at hr
    obtain ⟨E1, E2⟩ := END.out _ _ _ _ T6.out O7 L7
    have HE1 := Lib.hid E1
    have HE2 := Lib.hid E2
    clear R5 K5 b6 T5 b5 T6 s6 O7 L7 E1 E2 AP END D2 T4 ob ZW hp hl0 hle lq1 w6
    go_wp2_with (at_builtin; refine wpList_append_run rfl (.tmp 53) (.tmp 55) 159 159 rfl _ _ _ _ rfl rfl hr ?_)
    clear hr
    go_wp2
    go_roundw
    case rel => exact ⟨_, _, _, _, rfl, HE1⟩
    case measure => exact HE2.out
   ·rw [if_neg c] at RX
    have w6 : (k : Int).tmod 2 = 1 := by rw [Int.tmod_eq_emod_of_nonneg (by omega)]; omega
    have D2 : Hid (∀ W, Rq W w.heap.size d q1 g1 → Calls Tryz.prog 66 #[.pointer (some ⟨w.heap.size, 0, none⟩), .int .i64 4099] W fun v w' => v = .returned (.int .i64 ((rNum 4099 d q1 g1).1 : Int)) ∧ Rq w' w.heap.size d (rNum 4099 d q1 g1).2.1 (rNum 4099 d q1 g1).2.2 ∧ Keep (fun k => k ≠ w.heap.size) W w') := fun W hW => qnum_any 4099 hW lq1 (by omega)
    generalize rNum 4099 d q1 g1 = A at *
    simp only [Prod.mk.injEq] at RX
    obtain ⟨rfl, ra⟩ := RX
    have e0 : cpv ⟨A.1, k / 2, []⟩ = .complex .f64 (FB (A.1 : Int)) (FB ((k / 2 : Nat) : Int)) := rfl
    have e1 : bs [] = ⟨#[]⟩ := rfl
    rw [e0] at AP
    dsimp only at AP
    rw [e1] at AP
    have ea : A.2.1 = p' ∧ A.2.2 = e' := by rw [← ra]; exact ⟨rfl, rfl⟩
    rw [ea.1, ea.2] at D2
    have fA : floatOfInt .f64 (A.1 : Int) = FB (A.1 : Int) := rfl
    have fB : floatOfInt .f64 ((k : Int) / 2) = FB ((k / 2 : Nat) : Int) := by rw [show (k : Int) / 2 = ((k / 2 : Nat) : Int) by omega]; rfl
    generalize FB (A.1 : Int) = P at *
    generalize FB ((k / 2 : Nat) : Int) = N at *
    clear e0 e1 ea ra
    have hk3 := hk2.2
    clear hk2
    go_wp2_with fail
    refine (D2.out _ T5.out.1).mono ?_
    rintro v' w5 ⟨rfl, R5, K5⟩
    have b6 : w5.heap[w4.heap.size]? = some (.cells #[.complex .f64 0 0, .string ⟨#[]⟩] 189 (0, 0)) := K5.at (by have := ZW.out; show w4.heap.size ≠ _; omega) b5.out
    have T6 : Hid (QT d w.heap.size (w.heap.size + 1) w l v p' e' (w5.setCell ⟨w4.heap.size, 0, none⟩ (.complex .f64 P N))) :=
     (T5.out.read ⟨Nat.le_refl _, Nat.lt_succ_self _⟩ R5 K5).set _ (by have := ZW.out; omega) (by have := ZW.out; omega) (fun h => by have := ob.out _ h; omega)
    have s6 := heap_setCell_same w5 w4.heap.size 0 _ 189 (.complex .f64 P N) b6
    have d0 := cell_of_row w5 w4.heap.size 0 _ _ _ b6
    have d1 := cell_of_row w5 w4.heap.size 1 _ _ _ b6
    have f0 := frozen_of_row w5 w4.heap.size 0 _ _ b6
    have s0 : (w5.setCell ⟨w4.heap.size, 0, none⟩ (.complex .f64 P N)).cell? ⟨w4.heap.size, 0, none⟩ = some (.complex .f64 P N) := cell_of_row _ w4.heap.size 0 _ _ _ s6
    have s1 : (w5.setCell ⟨w4.heap.size, 0, none⟩ (.complex .f64 P N)).cell? ⟨w4.heap.size, 1, none⟩ = some (.string ⟨#[]⟩) := cell_of_row _ w4.heap.size 1 _ _ _ s6
    obtain ⟨g, cap, w7, hr, O7, L7⟩ := AP.out _ T6.out.2.1 T6.out.2.2.2
    rw [size_set] at hr
    obtain ⟨E1, E2⟩ := END.out _ _ _ _ T6.out O7 L7
    have HE1 := Lib.hid E1
    have HE2 := Lib.hid E2
    clear R5 K5 b6 T5 b5 T6 s6 O7 L7 E1 E2 AP END D2 T4 ob ZW hp hl0 hle lq1 w6
    go_wp2_with (at_builtin; refine wpList_append_run rfl (.tmp 53) (.tmp 55) 159 159 rfl _ _ _ _ rfl rfl hr ?_)
    clear hr
    go_wp2
    go_roundw
    case rel => exact ⟨_, _, _, _, rfl, HE1⟩
    case measure => exact HE2.out
  ·have FIN := hT.out.iq.fin h5
   have HE := qend_any hT.out.rd
   by_cases he : e = 0
   ·have hpl : p = d.length := by
     by_cases c : p = d.length
     ·exact c
     ·exact absurd ⟨he, by omega⟩ h5
    subst he hpl
    have yk : ¬ ((d.length : Int) < (sb.size : Int)) := by omega
    have yk2 : (sb.size : Int) ≤ (d.length : Int) := by omega
    rw [(end_ok (Nat.le_refl _)).2 ⟨rfl, rfl⟩] at HE
    have few := hT.out.few
    rw [if_pos rfl] at few
    have CK : Hid (∀ W, RowZ W v l → Calls Tryz.prog 117 #[.int .i64 (b : Int), v] W fun e w' => e = .returned (.tuple #[.int .i64 ((chk b l).1 : Int), .int .i64 (chk b l).2]) ∧ Below W.heap.size W w') := fun W h => check_any' b l v W H2.out.2.2.1 h hT.out.sm (by omega)
    have HHE := Lib.hid HE
    by_cases cg : (∀ x ∈ l, good b x) ∧ szs l = many
    ·rw [if_pos ⟨rfl, cg⟩] at FIN
     have hm := H2.out.2.2.2.1
     have hc : chk b l = (many, 0) := by unfold chk; rw [if_pos cg.1, if_pos (by omega), cg.2]
     rw [hc] at CK
     dsimp only at CK
     have RF := Lib.hid FIN
     clear FIN HE h5 few hl0 hle cg hc hm
     go_wp2_with fail
     refine HHE.out.mono ?_
     rintro v' w4 ⟨rfl, B4⟩
     have O4 := Lib.hid (hT.out.own.all B4)
     have L4 := Lib.hid (hT.out.all.trans (B4.mono hT.out.all.size))
     clear B4 HHE hT
     go_wp2_with fail
     refine (CK.out _ O4.out.row).mono ?_
     rintro v' w5 ⟨rfl, B5⟩
     have O5 := Lib.hid (O4.out.all B5)
     have L5 := Lib.hid (L4.out.trans (B5.mono L4.out.size))
     clear B5 CK O4 L4
     go_wp2
     go_ret3
     refine ⟨?_, L5.out⟩
     rw [RF.out]
     exact ⟨_, rfl, O5.out.mono (by omega)⟩
    ·rw [if_neg (fun h => cg h.2)] at FIN
     have RF := Lib.hid FIN
     obtain ⟨cn, ce, hce⟩ : ∃ cn ce, chk b l = (cn, ce) := ⟨_, _, rfl⟩
     have hbad : ¬ (ce = 0 ∧ cn = many) := by
      rintro ⟨rfl, rfl⟩
      unfold chk at hce
      split at hce
      ·rename_i hall
       split at hce
       ·simp only [Prod.mk.injEq] at hce
        exact cg ⟨hall, hce.1⟩
       ·simp only [Prod.mk.injEq] at hce
        exact absurd hce.2 (by decide)
      ·simp only [Prod.mk.injEq] at hce
       exact absurd hce.2 (by decide)
     rw [hce] at CK
     dsimp only at CK
     have t0 : ce = 0 → ¬ cn = many := fun h1 h2 => hbad ⟨h1, h2⟩
     by_cases c0 : ce = 0
     ·subst c0
      have t5 : ((cn : Int) != (many : Int)) = true := by
       have := t0 rfl
       have h2 : ¬ ((cn : Int) = (many : Int)) := by omega
       simpa using h2
      clear FIN HE h5 few hl0 hle cg hce hbad t0
      go_wp2_with fail
      refine HHE.out.mono ?_
      rintro v' w4 ⟨rfl, B4⟩
      have O4 := Lib.hid (hT.out.own.all B4)
      have L4 := Lib.hid (hT.out.all.trans (B4.mono hT.out.all.size))
      clear B4 HHE hT
      go_wp2_with fail
      refine (CK.out _ O4.out.row).mono ?_
      rintro v' w5 ⟨rfl, B5⟩
      have L5 := Lib.hid (L4.out.trans (B5.mono L4.out.size))
      clear B5 CK O4 L4
      go_wp2
      go_ret3
      refine ⟨?_, L5.out⟩
      rw [RF.out]
      rfl
     ·have t5 : (ce != 0) = true := by simpa using c0
      clear FIN HE h5 few hl0 hle cg hce hbad t0 c0
      go_wp2_with fail
      refine HHE.out.mono ?_
      rintro v' w4 ⟨rfl, B4⟩
      have O4 := Lib.hid (hT.out.own.all B4)
      have L4 := Lib.hid (hT.out.all.trans (B4.mono hT.out.all.size))
      clear B4 HHE hT
      go_wp2_with fail
      refine (CK.out _ O4.out.row).mono ?_
      rintro v' w5 ⟨rfl, B5⟩
      have L5 := Lib.hid (L4.out.trans (B5.mono L4.out.size))
      clear B5 CK O4 L4
      go_wp2
      go_ret3
      refine ⟨?_, L5.out⟩
      rw [RF.out]
      rfl
   ·rw [if_neg (fun h => he h.1)] at FIN
    have RF := Lib.hid FIN
    have hE0 : ¬ endOf d.length p e = 0 := fun h => he ((end_ok hT.out.le).1 h).1
    obtain ⟨E, hE⟩ : ∃ E, E = endOf d.length p e := ⟨_, rfl⟩
    rw [← hE] at HE hE0
    have HHE := Lib.hid HE
    have t2 : (E != 0) = true := by simpa using hE0
    have t3 : (e == 0) = false := by simpa using he
    clear HE h5 FIN hE hE0 hl0 hle
    go_wp2_with fail
    refine HHE.out.mono ?_
    rintro v' w4 ⟨rfl, B4⟩
    have L4 := Lib.hid (hT.out.all.trans (B4.mono hT.out.all.size))
    clear B4 HHE hT
    go_wp2
    go_ret3
    refine ⟨?_, L4.out⟩
    rw [RF.out]
    rfl
end Go.Proofs.YtnmjcpoobabjgaaGreatDoor
/- What any bytes say, and what they make of a base, is the document's. -/
namespace Go.Proofs.YtnmjcpoobabjgaaGreatDoor
set_option maxRecDepth 100000
open Go.RowKit
set_option maxHeartbeats 1000000 in
theorem qapply_any (B d : List UInt8) (w : World) (hB : B.length ≤ 1000000) (hl : d.length ≤ 50000) :
    Calls Tryz.prog 76 #[.string (bs B), .string (bs d)] w fun e w' => e = .returned (.tuple #[.string (bs (aRes B d).1), .int .i64 (aRes B d).2]) ∧ Below w.heap.size w w' := by
  have C1 : Hid (∀ W, _) := Lib.hid (fun W => dqread_any d W hl)
  have hz := bs_size B
  unfold aRes
  cases hd : dRead d with
  | none =>
    dsimp only
    rw [hd] at C1
    have e0 : bs [] = ⟨#[]⟩ := rfl
    rw [e0]
    generalize bs B = sB at *
    generalize bs d = sd at *
    clear hz hB hl hd
    go_enter Tryz.func76, Tryz.ntmps76
    go_wp2_with fail
    refine (C1.out _).mono ?_
    rintro e w1 ⟨he, B1⟩
    have he2 : e = .returned (.tuple #[.int .i64 0, .slice none 0 0, .bool false]) := he
    subst he2
    have L1 := Lib.hid B1
    clear he B1 C1
    go_wp2
    go_ret2
    exact ⟨rfl, L1.out⟩
  | some x =>
    obtain ⟨b, l⟩ := x
    obtain ⟨hb, hg, hs⟩ := dRead_good hd
    dsimp only
    rw [hd] at C1
    by_cases c : B.length = b
    · rw [if_pos c]
      subst c
      have C2 : Hid (∀ W v, RowZ W v l → Calls Tryz.prog 94 #[.string (bs B), v] W fun e w' => e = .returned (.tuple #[.string (bs (tzs B l)), .int .i64 0]) ∧ Below W.heap.size W w') := fun W v h => dqtext_any B l v W hb h hg (fun x hx => good_small hb (hg x hx)) hs
      have ht : ((bs B).size : Int) = (B.length : Int) := by rw [hz]
      generalize bs B = sB at *
      generalize bs d = sd at *
      generalize bs (tzs B l) = st at *
      clear hB hl hd hb hg hs
      go_enter Tryz.func76, Tryz.ntmps76
      go_wp2_with fail
      refine (C1.out _).mono ?_
      rintro e w1 ⟨⟨v, he, hO⟩, B1⟩
      have he2 : e = .returned (.tuple #[.int .i64 (B.length : Int), v, .bool true]) := he
      subst he2
      have L1 := Lib.hid B1
      have R1 : Hid (RowZ w1 v l) := hO.row
      clear he hO B1 C1
      go_wp2_with fail
      refine (C2.out _ _ R1.out).mono ?_
      rintro e w2 ⟨rfl, B2⟩
      have L2 := Lib.hid (L1.out.trans (B2.mono L1.out.size))
      clear B2 C2
      go_wp2
      go_ret2
      exact ⟨rfl, L2.out⟩
    · rw [if_neg c]
      have e0 : bs [] = ⟨#[]⟩ := rfl
      dsimp only
      rw [e0]
      have h2 : ¬ ((b : Int) = (B.length : Int)) := by omega
      have ht : ((b : Int) != ((bs B).size : Int)) = true := by rw [hz]; simpa using h2
      generalize bs B = sB at *
      generalize bs d = sd at *
      clear hB hl hd hb hg hs hz c h2
      go_enter Tryz.func76, Tryz.ntmps76
      go_wp2_with fail
      refine (C1.out _).mono ?_
      rintro e w1 ⟨⟨v, he, hO⟩, B1⟩
      have he2 : e = .returned (.tuple #[.int .i64 (b : Int), v, .bool true]) := he
      subst he2
      have L1 := Lib.hid B1
      clear he hO B1 C1
      go_wp2
      go_ret2
      exact ⟨rfl, L1.out⟩
end Go.Proofs.YtnmjcpoobabjgaaGreatDoor
