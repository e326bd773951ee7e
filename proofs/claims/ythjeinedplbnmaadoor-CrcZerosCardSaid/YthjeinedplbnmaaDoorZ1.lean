import Derived.Test.YthjeinedplbnmaaDoorW6
namespace Go.Proofs.YthjeinedplbnmaaDoor
open Go.RowKit
set_option maxHeartbeats 400000 in
set_option maxRecDepth 100000 in
theorem crczeros_at (a b : W32) (n m : Int) (w : World) (hm : m = if 5000 < n then 5000 else n) (h0 : -9223372036854775808 ≤ n) (hk : ∀ i, i < 16 → w.cell? ⟨0, i, none⟩ = some (wv hb i)) :
    Calls Tryd.prog 4 #[.int .u32 (U a), .int .u32 (U b), .int .i64 n] w fun e w' => e = .returned (.bool true) ∧ Below w.heap.size w w' := by
  have h0' : 0 < w.heap.size := block_lt_of_cell (hk 0 (by omega))
  have HKW : Hid (∀ w', Below w.heap.size w w' → ∀ i, i < 16 → w'.cell? ⟨0, i, none⟩ = some (wv hb i)) := fun w' L i hi => by rw [L.cell h0']; exact hk i hi
  have m0 : -9223372036854775808 ≤ m := by rw [hm]; split <;> omega
  have m1 : m ≤ 1048576 := by rw [hm]; split <;> omega
  obtain ⟨z, hz⟩ : ∃ z, z = zeros a m.toNat := ⟨_, rfl⟩
  have C1 : Hid (∀ W, Calls Tryd.prog 15 #[.int .u32 (U a), .int .i64 m] W fun e w' => e = .returned (.int .u32 (U z)) ∧ W = w') := fun W => by rw [hz]; exact refzeros_any a m W m0 m1
  have C2 : Hid (∀ W, Below w.heap.size w W → Calls Tryd.prog 16 #[.int .u32 (U a), .int .i64 m] W fun e w' => e = .returned (.int .u32 (U z)) ∧ W = w') := fun W L => by rw [hz]; exact zeros_any a m W m0 m1 (HKW.out _ L)
  have C3 : Hid (∀ W, Below w.heap.size w W → Calls Tryd.prog 17 #[.int .u32 (U a), .int .u32 (U b), .int .i64 m] W fun e w' => e = .returned (.int .u32 (U (z ^^^ b))) ∧ W = w') := fun W L => by rw [hz]; exact cjoin_any a b m W m0 m1 (HKW.out _ L)
  clear hz hk
  by_cases c : 5000 < n
  · have em : m = 5000 := by rw [hm, if_pos c]
    subst em
    clear hm
    go_enter Tryd.func4, Tryd.ntmps4
    go_wp2_with fail
    refine (alive_any _ (HKW.out _ (Below.refl _ _))).mono ?_
    rintro e w1 ⟨rfl, L1⟩
    go_wp2_with fail
    refine (C1.out _).mono ?_
    rintro e w' ⟨rfl, rfl⟩
    go_wp2_with fail
    refine (alive_any _ (HKW.out _ L1)).mono ?_
    rintro e w2 ⟨rfl, hb2⟩
    have L2 := L1.trans (hb2.mono L1.size)
    clear hb2
    go_wp2_with fail
    refine (C2.out _ L2).mono ?_
    rintro e w' ⟨rfl, rfl⟩
    go_wp2_with fail
    refine (C3.out _ L2).mono ?_
    rintro e w' ⟨rfl, rfl⟩
    have ex := U_xor z b
    go_wp2_with fail
    go_ret
    exact ⟨rfl, L2⟩
  · have em : m = n := by rw [hm, if_neg c]
    subst em
    clear hm
    have c' : m ≤ 5000 := by omega
    go_enter Tryd.func4, Tryd.ntmps4
    go_wp2_with fail
    refine (alive_any _ (HKW.out _ (Below.refl _ _))).mono ?_
    rintro e w1 ⟨rfl, L1⟩
    go_wp2_with fail
    refine (C1.out _).mono ?_
    rintro e w' ⟨rfl, rfl⟩
    go_wp2_with fail
    refine (alive_any _ (HKW.out _ L1)).mono ?_
    rintro e w2 ⟨rfl, hb2⟩
    have L2 := L1.trans (hb2.mono L1.size)
    clear hb2
    go_wp2_with fail
    refine (C2.out _ L2).mono ?_
    rintro e w' ⟨rfl, rfl⟩
    go_wp2_with fail
    refine (C3.out _ L2).mono ?_
    rintro e w' ⟨rfl, rfl⟩
    have ex := U_xor z b
    go_wp2_with fail
    go_ret
    exact ⟨rfl, L2⟩
end Go.Proofs.YthjeinedplbnmaaDoor
