import Derived.Test.YthjeinedplbnmaaDoorJ1
namespace Go.Proofs.YthjeinedplbnmaaDoor
open Go.RowKit
set_option maxHeartbeats 1000000 in
set_option maxRecDepth 100000 in
theorem crcseals_any (s : ByteArray) (w : World) (hs : s.size ≤ 9223372036854775807) (hk : ∀ i, i < 16 → w.cell? ⟨0, i, none⟩ = some (wv hb i)) :
    Calls Tryd.prog 5 #[.string s] w fun e w' => e = .returned (.bool true) ∧ Below w.heap.size w w' := by
  have h0 : 0 < w.heap.size := block_lt_of_cell (hk 0 (by omega))
  have HKW : Hid (∀ w', Below w.heap.size w w' → ∀ i, i < 16 → w'.cell? ⟨0, i, none⟩ = some (wv hb i)) := fun w' L i hi => by rw [L.cell h0]; exact hk i hi
  clear hk
  by_cases c1 : 4000 < s.size
  · have b1 : (4000 : Int) < (s.size : Int) := by omega
    go_enter Tryd.func5, Tryd.ntmps5
    go_wp2_with fail
    refine (alive_any _ (HKW.out _ (Below.refl _ _))).mono ?_
    rintro e w1 ⟨rfl, L1⟩
    go_wp2_with fail
    refine (alive_any _ (HKW.out _ L1)).mono ?_
    rintro e w2 ⟨rfl, hb2⟩
    have L2 := below_step L1 hb2
    go_wp2_with fail
    go_ret
    exact ⟨rfl, L2⟩
  · have b1 : (s.size : Int) ≤ 4000 := by omega
    obtain ⟨u, q, r, C1, C2, C3, C4, C5⟩ : ∃ (u : ByteArray) (q : Bool) (r : ByteArray),
        Hid (∀ W, Below w.heap.size w W → Calls Tryd.prog 18 #[.string s] W fun e w' => e = .returned (.tuple #[.string u, .bool q]) ∧ Below W.heap.size W w') ∧
        Hid (∀ W, Calls Tryd.prog 19 #[.string s] W fun e w' => e = .returned (.tuple #[.string u, .bool q]) ∧ Below W.heap.size W w') ∧
        Hid (∀ W, Below w.heap.size w W → Calls Tryd.prog 20 #[.string s] W fun e w' => e = .returned (.string r) ∧ Below W.heap.size W w') ∧
        Hid (∀ W, Calls Tryd.prog 21 #[.string s] W fun e w' => e = .returned (.string r) ∧ Below W.heap.size W w') ∧
        Hid (∀ W, Below w.heap.size w W → Calls Tryd.prog 18 #[.string r] W fun e w' => e = .returned (.tuple #[.string s, .bool true]) ∧ Below W.heap.size W w') :=
      ⟨unS s, okS s, sealS s, fun W L => unseal_any s W (by omega) (HKW.out _ L), fun W => refunseal_any s W (by omega), fun W L => seal_any s W (by omega) (HKW.out _ L), fun W => refseal_any s W (by omega), fun W L => unseal_seal s W (by omega) (HKW.out _ L)⟩
    clear hs c1
    go_enter Tryd.func5, Tryd.ntmps5
    go_wp2_with fail
    refine (alive_any _ (HKW.out _ (Below.refl _ _))).mono ?_
    rintro e w1 ⟨rfl, L1⟩
    go_wp2_with fail
    refine (C1.out _ L1).mono ?_
    rintro e w2 ⟨rfl, hb2⟩
    have L2 := below_step L1 hb2
    clear hb2
    go_wp2_with fail
    refine (C2.out _).mono ?_
    rintro e w3 ⟨rfl, hb3⟩
    have L3 := below_step L2 hb3
    clear hb3
    go_wp2_with fail
    refine (C3.out _ L3).mono ?_
    rintro e w4 ⟨rfl, hb4⟩
    have L4 := below_step L3 hb4
    clear hb4
    go_wp2_with fail
    refine (C5.out _ L4).mono ?_
    rintro e w5 ⟨rfl, hb5⟩
    have L5 := below_step L4 hb5
    clear hb5
    go_wp2_with fail
    refine (alive_any _ (HKW.out _ L5)).mono ?_
    rintro e w6 ⟨rfl, hb6⟩
    have L6 := below_step L5 hb6
    clear hb6
    go_wp2_with fail
    refine (C3.out _ L6).mono ?_
    rintro e w7 ⟨rfl, hb7⟩
    have L7 := below_step L6 hb7
    clear hb7
    go_wp2_with fail
    refine (C4.out _).mono ?_
    rintro e w8 ⟨rfl, hb8⟩
    have L8 := below_step L7 hb8
    clear hb8
    go_wp2_with fail
    go_ret
    exact ⟨rfl, L8⟩
end Go.Proofs.YthjeinedplbnmaaDoor
