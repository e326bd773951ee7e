import Derived.Test.YthjeinedplbnmaaDoorW6
namespace Go.Proofs.YthjeinedplbnmaaDoor
open Go.RowKit
def twoS (s t : ByteArray) (i : Nat) : ByteArray := if i = 0 then s else t
theorem two_offs (s t : ByteArray) : offs (twoS s t) 2 = s.size + t.size := by
  show 0 + s.size + t.size = _
  omega
theorem two_left (s t : ByteArray) (i : Nat) (h : i < s.size) : joinF (twoS s t) 2 i = sAt s i := by
  rw [joinF_old _ 1 i (by show i < 0 + s.size; omega)]
  exact one_join s i
theorem two_right (s t : ByteArray) (i : Nat) : joinF (twoS s t) 2 (s.size + i) = sAt t i := by
  have h := joinF_new (twoS s t) 1 i
  rw [show offs (twoS s t) 1 = s.size by show 0 + s.size = _; omega] at h
  exact h
theorem two_cells (s t : ByteArray) : ∀ i, i < 2 → (#[.string s, .string t] : Array Value)[i]? = some (.string (twoS s t i)) := fun i hi =>
  match i, hi with
  | 0, _ => rfl
  | 1, _ => rfl
theorem two_join (s t : ByteArray) : zeros (sumF (sAt s) s.size) t.size ^^^ sumF (sAt t) t.size = sumF (joinF (twoS s t) 2) (offs (twoS s t) 2) := by
  rw [two_offs]
  exact join_sums _ _ _ _ _ (fun i hi => two_left s t i hi) (fun i _ => two_right s t i)
theorem two_add (s t : ByteArray) : ~~~feeds (~~~sumF (sAt s) s.size) (sAt t) t.size = sumF (joinF (twoS s t) 2) (offs (twoS s t) 2) := by
  rw [two_offs]
  unfold sumF
  rw [not_not', feeds_add ones (joinF (twoS s t) 2) (sAt t) s.size t.size (fun i _ => two_right s t i), feeds_congr (fun i hi => two_left s t i hi)]
theorem below_step {a b c : World} (h : Below a.heap.size a b) (h2 : Below b.heap.size b c) : Below a.heap.size a c := h.trans (h2.mono h.size)
set_option maxHeartbeats 800000 in
set_option maxRecDepth 100000 in
theorem crcjoins_any (s t : ByteArray) (w : World) (hs : s.size ≤ 9223372036854775807) (ht : t.size ≤ 9223372036854775807) (hk : ∀ i, i < 16 → w.cell? ⟨0, i, none⟩ = some (wv hb i)) :
    Calls Tryd.prog 6 #[.string s, .string t] w fun e w' => e = .returned (.bool true) ∧ Below w.heap.size w w' := by
  have h0 : 0 < w.heap.size := block_lt_of_cell (hk 0 (by omega))
  have HKW : Hid (∀ w', Below w.heap.size w w' → ∀ i, i < 16 → w'.cell? ⟨0, i, none⟩ = some (wv hb i)) := fun w' L i hi => by rw [L.cell h0]; exact hk i hi
  clear hk
  by_cases c1 : 4000 < s.size
  · have b1 : (4000 : Int) < (s.size : Int) := by omega
    go_enter Tryd.func6, Tryd.ntmps6
    go_wp2_with fail
    refine (alive_any _ (HKW.out _ (Below.refl _ _))).mono ?_
    rintro e w1 ⟨rfl, L1⟩
    go_wp2_with fail
    refine (alive_any _ (HKW.out _ L1)).mono ?_
    rintro e w2 ⟨rfl, hb2⟩
    have L2 := below_step L1 hb2
    go_wp2_with fail
    go_ret
    exact ⟨rfl, L2⟩
  · by_cases c2 : 4000 < t.size
    · have b1 : (s.size : Int) ≤ 4000 := by omega
      have b2 : (4000 : Int) < (t.size : Int) := by omega
      go_enter Tryd.func6, Tryd.ntmps6
      go_wp2_with fail
      refine (alive_any _ (HKW.out _ (Below.refl _ _))).mono ?_
      rintro e w1 ⟨rfl, L1⟩
      go_wp2_with fail
      refine (alive_any _ (HKW.out _ L1)).mono ?_
      rintro e w2 ⟨rfl, hb2⟩
      have L2 := below_step L1 hb2
      go_wp2_with fail
      go_ret
      exact ⟨rfl, L2⟩
    · have b1 : (s.size : Int) ≤ 4000 := by omega
      have b2 : (t.size : Int) ≤ 4000 := by omega
      obtain ⟨a, b, q, C2, C1s, C1t, CJ, CA⟩ : ∃ a b q : W32,
          Hid (∀ W p, Strs W (.slice (some ⟨p, 0, none⟩) 2 2) (twoS s t) 2 → Below w.heap.size w W → Calls Tryd.prog 12 #[.slice (some ⟨p, 0, none⟩) 2 2] W fun e w' => e = .returned (.int .u32 (U q)) ∧ W = w') ∧
          Hid (∀ W p, Strs W (.slice (some ⟨p, 0, none⟩) 1 1) (oneS s) 1 → Below w.heap.size w W → Calls Tryd.prog 12 #[.slice (some ⟨p, 0, none⟩) 1 1] W fun e w' => e = .returned (.int .u32 (U a)) ∧ W = w') ∧
          Hid (∀ W p, Strs W (.slice (some ⟨p, 0, none⟩) 1 1) (oneS t) 1 → Below w.heap.size w W → Calls Tryd.prog 12 #[.slice (some ⟨p, 0, none⟩) 1 1] W fun e w' => e = .returned (.int .u32 (U b)) ∧ W = w') ∧
          Hid (∀ W, Below w.heap.size w W → Calls Tryd.prog 17 #[.int .u32 (U a), .int .u32 (U b), .int .i64 (t.size : Int)] W fun e w' => e = .returned (.int .u32 (U q)) ∧ W = w') ∧
          Hid (∀ W, Below w.heap.size w W → Calls Tryd.prog 14 #[.int .u32 (U a), .string t] W fun e w' => e = .returned (.int .u32 (U q)) ∧ W = w') := by
        refine ⟨sumF (sAt s) s.size, sumF (sAt t) t.size, sumF (joinF (twoS s t) 2) (offs (twoS s t) 2), fun W p hS L => ?_, fun W p hS L => ?_, fun W p hS L => ?_, fun W L => ?_, fun W L => ?_⟩
        · exact csum_any _ _ 2 W (by omega) (by rw [two_offs]; omega) hS (HKW.out _ L)
        · exact csum_one s W p (by omega) hS (HKW.out _ L)
        · exact csum_one t W p (by omega) hS (HKW.out _ L)
        · have h := cjoin_any (sumF (sAt s) s.size) (sumF (sAt t) t.size) (t.size : Int) W (by omega) (by omega) (HKW.out _ L)
          rw [Int.toNat_natCast, two_join] at h
          exact h
        · have h := add_any (sumF (sAt s) s.size) t W (by omega) (HKW.out _ L)
          rw [two_add] at h
          exact h
      clear hs ht
      go_enter Tryd.func6, Tryd.ntmps6
      go_wp2_with fail
      refine (alive_any _ (HKW.out _ (Below.refl _ _))).mono ?_
      rintro e w1 ⟨rfl, L1⟩
      go_wp2_with fail
      have L2 := L1.alloc L1.size (.cells #[.string s, .string t] 9)
      refine (C2.out _ _ (strs_new _ _ _ _ _ _ rfl (by decide) (two_cells s t)) L2).mono ?_
      rintro e w' ⟨rfl, rfl⟩
      generalize w1.alloc (.cells #[.string s, .string t] 9) = w2 at L2 ⊢
      go_wp2_with fail
      refine (alive_any _ (HKW.out _ L2)).mono ?_
      rintro e w3 ⟨rfl, hb3⟩
      have L3 := below_step L2 hb3
      go_wp2_with fail
      have L4 := L3.alloc L3.size (.cells #[.string s] 9)
      refine (C1s.out _ _ (strs_new _ _ _ _ _ _ rfl (by decide) (one_cells s)) L4).mono ?_
      rintro e w' ⟨rfl, rfl⟩
      generalize w3.alloc (.cells #[.string s] 9) = w4 at L4 ⊢
      go_wp2_with fail
      have L5 := L4.alloc L4.size (.cells #[.string t] 9)
      refine (C1t.out _ _ (strs_new _ _ _ _ _ _ rfl (by decide) (one_cells t)) L5).mono ?_
      rintro e w' ⟨rfl, rfl⟩
      generalize w4.alloc (.cells #[.string t] 9) = w5 at L5 ⊢
      go_wp2_with fail
      refine (CJ.out _ L5).mono ?_
      rintro e w' ⟨rfl, rfl⟩
      go_wp2_with fail
      have L6 := L5.alloc L5.size (.cells #[.string s] 9)
      refine (C1s.out _ _ (strs_new _ _ _ _ _ _ rfl (by decide) (one_cells s)) L6).mono ?_
      rintro e w' ⟨rfl, rfl⟩
      generalize w5.alloc (.cells #[.string s] 9) = w6 at L6 ⊢
      go_wp2_with fail
      refine (CA.out _ L6).mono ?_
      rintro e w' ⟨rfl, rfl⟩
      go_wp2_with fail
      go_ret
      exact ⟨rfl, L6⟩
end Go.Proofs.YthjeinedplbnmaaDoor
