import Derived.Test.YtnfhnkplkbpmpaaDoorS1
namespace Go.Proofs.YtnfhnkplkbpmpaaDoor
open Go.RowKit
theorem pad_same {d e : Nat → UInt8} {n : Nat} (h : ∀ i, i < n → d i = e i) : pad d n = pad e n := funext fun i => by
  unfold pad
  by_cases c : i < n
  · rw [if_pos c, if_pos c, h i c]
  · rw [if_neg c, if_neg c]
theorem dig_str (n : Nat) (f : Nat → UInt8) : dig (sAt (str n f)) (str n f).size = dig f n := by
  rw [str_size]
  unfold dig
  rw [pad_same (e := f) (fun i hi => str_at n f i hi)]
theorem refsum_str (n : Nat) (f : Nat → UInt8) (w : World) (hn : n ≤ 1073741824) :
    Calls Tryd.prog 11 #[.string (str n f)] w fun e w' => e = .returned (.agg (arr 32 (bv (dig f n)))) ∧ Below w.heap.size w w' := by
  have h := refsum_any (str n f) w (by rw [str_size]; exact hn)
  rw [dig_str] at h
  exact h
set_option maxHeartbeats 1000000 in
set_option maxRecDepth 100000 in
theorem sums_any (ss : Nat → ByteArray) (v : Value) (len : Nat) (w : World) (hl : len ≤ 9223372036854775807) (hS : Strs w v ss len) (hk : ∀ i, i < 64 → w.cell? ⟨0, i, none⟩ = some (wv kk i)) :
    Calls Tryd.prog 3 #[v] w fun e w' => e = .returned (.bool true) ∧ Below w.heap.size w w' := by
  have h0 : 0 < w.heap.size := block_lt_of_cell (hk 0 (by omega))
  have HKW : Hid (∀ w', Below w.heap.size w w' → ∀ i, i < 64 → w'.cell? ⟨0, i, none⟩ = some (wv kk i)) := fun w' L i hi => by rw [L.cell h0]; exact hk i hi
  have HS : Hid (∀ w', Below w.heap.size w w' → Strs w' v ss len) := fun w' L => hS.below L
  have HG := Lib.hid hl
  clear hk hS hl
  go_enter Tryd.func3, Tryd.ntmps3
  go_wp2_with fail
  refine (alive_any _ (HKW.out _ (Below.refl _ _))).mono ?_
  rintro e w1 ⟨rfl, L1⟩
  go_wp2_with fail
  refine (great_any ss v len w1 HG.out (HS.out _ L1)).mono ?_
  rintro e w' ⟨rfl, rfl⟩
  cases hg : isGreat ss len
  · have h40 : len ≤ 40 := by
      by_cases c : 40 < len
      · unfold isGreat at hg
        rw [decide_eq_true c] at hg
        cases hg
      · omega
    have hlo : longs ss len = false := by
      unfold isGreat at hg
      rw [Bool.or_eq_false_iff] at hg
      exact hg.2
    have hn : offs ss len ≤ 1073741824 := by
      have := offs_le ss len (longs_false hlo)
      omega
    clear hlo hg
    go_wp2_with fail
    refine (alive_any _ (HKW.out _ L1)).mono ?_
    rintro e w2 ⟨rfl, hb2⟩
    have L2 := L1.trans (hb2.mono L1.size)
    clear hb2
    obtain ⟨D, q, C1, C2⟩ : ∃ D : Nat → UInt8, (∀ w, (binOp .eql 26 (.agg (arr 32 (bv D))) (.agg (arr 32 (bv D)))).run Tryd.prog w = .ok (.bool true) w) ∧
        Hid (∀ W, Below w.heap.size w W → Calls Tryd.prog 10 #[v] W fun e w' => e = .returned (.agg (arr 32 (bv D))) ∧ Below W.heap.size W w') ∧
        Hid (∀ W, Calls Tryd.prog 11 #[.string (str (offs ss len) (joinF ss len))] W fun e w' => e = .returned (.agg (arr 32 (bv D))) ∧ Below W.heap.size W w') :=
      ⟨_, eq_arr _ _ (fun _ _ => rfl), fun W L => sum_any ss v len W (by omega) hn (HS.out _ L) (HKW.out _ L), fun W => refsum_str _ _ W hn⟩
    go_wp2_with fail
    refine (C1.out _ L2).mono ?_
    rintro e w3 ⟨rfl, hb3⟩
    have L3 := L2.trans (hb3.mono L2.size)
    clear hb3
    go_wp2_with fail
    refine (join_any ss v len w3 (by omega) hn (HS.out _ L3)).mono ?_
    rintro e w' ⟨rfl, rfl⟩
    go_wp2_with fail
    refine (C2.out _).mono ?_
    rintro e w4 ⟨rfl, hb4⟩
    have L4 := L3.trans (hb4.mono L3.size)
    clear hb4
    go_wp2_with fail
    go_ret
    exact ⟨rfl, L4⟩
  · clear hg
    go_wp2_with fail
    refine (alive_any _ (HKW.out _ L1)).mono ?_
    rintro e w2 ⟨rfl, hb2⟩
    have L2 := L1.trans (hb2.mono L1.size)
    go_wp2_with fail
    go_ret
    exact ⟨rfl, L2⟩
end Go.Proofs.YtnfhnkplkbpmpaaDoor
