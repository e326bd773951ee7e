import Derived.Test.YtnfhnkplkbpmpaaDoorW12
import Derived.Deep.RegionHeld3
namespace Go.Proofs.YtnfhnkplkbpmpaaDoor
open Go.RowKit
def oneS (s : ByteArray) (_ : Nat) : ByteArray := s
def cutS (s : ByteArray) (x y i : Nat) : ByteArray := if i = 0 then s.extract 0 x else if i = 1 then s.extract x y else s.extract y s.size
theorem sAt_ext (s : ByteArray) (a b j : Nat) (h1 : a ≤ b) (h2 : b ≤ s.size) (hj : j < b - a) : sAt (s.extract a b) j = sAt s (a + j) := by
  have hs : s.data.size = s.size := rfl
  unfold sAt
  rw [ByteArray.data_extract, List.getD_eq_getElem?_getD, List.getD_eq_getElem?_getD, Array.getElem?_toList, Array.getElem?_toList, Array.getElem?_extract_of_lt (by omega), Array.getElem?_eq_getElem (show a + j < s.data.size by omega)]
theorem size_ext (s : ByteArray) (a b : Nat) (h1 : a ≤ b) (h2 : b ≤ s.size) : (s.extract a b).size = b - a := by
  rw [ByteArray.size_extract]; omega
theorem one_offs (s : ByteArray) : offs (oneS s) 1 = s.size := by simp [offs, oneS]
theorem cut_offs (s : ByteArray) (x y : Nat) (h1 : x ≤ y) (h2 : y ≤ s.size) : offs (cutS s x y) 3 = s.size := by
  have e0 : (cutS s x y 0).size = x := by unfold cutS; rw [if_pos rfl, size_ext _ _ _ (by omega) (by omega)]; omega
  have e1 : (cutS s x y 1).size = y - x := by unfold cutS; rw [if_neg (by omega), if_pos rfl, size_ext _ _ _ h1 h2]
  have e2 : (cutS s x y 2).size = s.size - y := by unfold cutS; rw [if_neg (by omega), if_neg (by omega), size_ext _ _ _ h2 (by omega)]
  show 0 + (cutS s x y 0).size + (cutS s x y 1).size + (cutS s x y 2).size = _
  omega
theorem one_join (s : ByteArray) (i : Nat) : joinF (oneS s) 1 i = sAt s i := by
  unfold joinF
  rw [if_neg (by simp [offs])]
  simp [offs, oneS]
theorem cut_join (s : ByteArray) (x y i : Nat) (h1 : x ≤ y) (h2 : y ≤ s.size) (hi : i < s.size) : joinF (cutS s x y) 3 i = sAt s i := by
  have e0 : (cutS s x y 0).size = x := by unfold cutS; rw [if_pos rfl, size_ext _ _ _ (by omega) (by omega)]; omega
  have e1 : (cutS s x y 1).size = y - x := by unfold cutS; rw [if_neg (by omega), if_pos rfl, size_ext _ _ _ h1 h2]
  have o1 : offs (cutS s x y) 1 = x := by show 0 + (cutS s x y 0).size = _; omega
  have o2 : offs (cutS s x y) 2 = y := by show 0 + (cutS s x y 0).size + (cutS s x y 1).size = _; omega
  have o0 : offs (cutS s x y) 0 = 0 := rfl
  unfold joinF
  by_cases c : i < y
  · rw [if_pos (by rw [o2]; exact c)]
    unfold joinF
    by_cases c2 : i < x
    · rw [if_pos (by rw [o1]; exact c2)]
      unfold joinF
      rw [if_neg (by rw [o0]; omega), o0]
      have e : cutS s x y 0 = s.extract 0 x := rfl
      rw [e, sAt_ext _ _ _ _ (by omega) (by omega) (by omega), show 0 + (i - 0) = i by omega]
    · rw [if_neg (by rw [o1]; exact c2), o1]
      have e : cutS s x y 1 = s.extract x y := rfl
      rw [e, sAt_ext _ _ _ _ h1 h2 (by omega), show x + (i - x) = i by omega]
  · rw [if_neg (by rw [o2]; exact c), o2]
    have e : cutS s x y 2 = s.extract y s.size := rfl
    rw [e, sAt_ext _ _ _ _ h2 (by omega) (by omega), show y + (i - y) = i by omega]
theorem cut_dig (s : ByteArray) (x y : Nat) (h1 : x ≤ y) (h2 : y ≤ s.size) (i : Nat) (hi : i < 32) : dig (joinF (oneS s) 1) (offs (oneS s) 1) i = dig (joinF (cutS s x y) 3) (offs (cutS s x y) 3) i := by
  rw [one_offs, cut_offs s x y h1 h2]
  exact dig_congr (fun j hj => by rw [one_join, cut_join s x y j h1 h2 hj]) i hi
theorem strs_new (W : World) (cs : Array Value) (E : TypeId) (ss : Nat → ByteArray) (n b : Nat) (hb : b = W.heap.size) (hn : 0 < n) (hc : ∀ i, i < n → cs[i]? = some (.string (ss i))) :
    Strs (W.alloc (.cells cs E)) (.slice (some ⟨b, 0, none⟩) n n) ss n := Or.inr ⟨b, 0, n, rfl, hn, by subst hb; simp, fun i hi => by
  subst hb
  rw [cell_of_row _ _ _ _ _ _ (heap_alloc_new W _), Nat.zero_add]; exact hc i hi⟩
theorem Strs.alloc {W : World} {v : Value} {ss : Nat → ByteArray} {n : Nat} (h : Strs W v ss n) (o : Obj) : Strs (W.alloc o) v ss n := by
  rcases h with h | ⟨b, k, cap, h1, h2, h3, h4⟩
  · exact Or.inl h
  · exact Or.inr ⟨b, k, cap, h1, h2, by simp; omega, fun i hi => by
      have hh : (w : World) → Below W.heap.size W (W.alloc o) := fun _ => (Below.refl _ _).alloc (Nat.le_refl _) _
      rw [(hh W).cell h3]; exact h4 i hi⟩
theorem Strs.below {W W' : World} {v : Value} {ss : Nat → ByteArray} {n : Nat} (h : Strs W v ss n) (hb : Below W.heap.size W W') : Strs W' v ss n := by
  rcases h with h | ⟨b, k, cap, h1, h2, h3, h4⟩
  · exact Or.inl h
  · exact Or.inr ⟨b, k, cap, h1, h2, Nat.lt_of_lt_of_le h3 hb.size, fun i hi => by rw [hb.cell h3]; exact h4 i hi⟩
theorem one_cells (s : ByteArray) : ∀ i, i < 1 → (#[.string s] : Array Value)[i]? = some (.string (oneS s i)) := fun i hi => by
  obtain rfl : i = 0 := by omega
  rfl
theorem cut_cells (s : ByteArray) (x y : Nat) : ∀ i, i < 3 → (#[.string (s.extract 0 x), .string (s.extract x y), .string (s.extract y s.size)] : Array Value)[i]? = some (.string (cutS s x y i)) := fun i hi =>
  match i, hi with
  | 0, _ => rfl
  | 1, _ => rfl
  | 2, _ => rfl
set_option maxHeartbeats 800000 in
set_option maxRecDepth 100000 in
theorem cut_any (s : ByteArray) (a b : Nat) (w : World) (hs : s.size ≤ 9223372036854775807) (ha : a < 65536) (hb : b < 65536) (hk : ∀ i, i < 64 → w.cell? ⟨0, i, none⟩ = some (wv kk i)) :
    Calls Tryd.prog 5 #[.string s, .int .u16 (a : Int), .int .u16 (b : Int)] w fun e w' => e = .returned (.bool true) ∧ Below w.heap.size w w' := by
  have h0 : 0 < w.heap.size := block_lt_of_cell (hk 0 (by omega))
  have HKW : Hid (∀ w', Below w.heap.size w w' → ∀ i, i < 64 → w'.cell? ⟨0, i, none⟩ = some (wv kk i)) := fun w' L i hi => by rw [L.cell h0]; exact hk i hi
  clear hk
  go_enter Tryd.func5, Tryd.ntmps5
  go_wp2_with fail
  refine (alive_any _ (HKW.out _ (Below.refl _ _))).mono ?_
  rintro e w1 ⟨rfl, L1⟩
  by_cases hbig : s.size > 4000
  · have hb' : (4000 : Int) < (s.size : Int) := by omega
    go_wp2_with fail
    refine (alive_any _ (HKW.out _ L1)).mono ?_
    rintro e w2 ⟨rfl, hb2⟩
    have L2 := L1.trans (hb2.mono L1.size)
    go_wp2_with fail
    go_ret
    exact ⟨rfl, L2⟩
  · have hb' : (s.size : Int) ≤ 4000 := by omega
    have Hbig := Lib.hid hbig
    clear hbig
    obtain ⟨x, hx⟩ : ∃ x, x = a % (s.size + 1) := ⟨_, rfl⟩
    obtain ⟨z, hz⟩ : ∃ z, z = b % (s.size - x + 1) := ⟨_, rfl⟩
    have x1 : x ≤ s.size := by have := Nat.mod_lt a (show 0 < s.size + 1 by omega); omega
    have z1 : z ≤ s.size - x := by have := Nat.mod_lt b (show 0 < s.size - x + 1 by omega); omega
    have ex : (a : Int) % ((s.size : Int) + 1) = (x : Int) := by rw [hx]; push_cast; rfl
    have ez : (b : Int) % ((s.size : Int) - (x : Int) + 1) = (z : Int) := by
      rw [hz, show (s.size : Int) - (x : Int) + 1 = ((s.size - x + 1 : Nat) : Int) by omega]; push_cast; rfl
    have x2 : (x : Int) ≤ (s.size : Int) := by omega
    have z2 : (z : Int) ≤ (s.size : Int) - (x : Int) := by omega
    have y2 : (x : Int) + (z : Int) ≤ (s.size : Int) := by omega
    have y3 : x + z ≤ s.size := by omega
    have Hx := Lib.hid hx
    have Hz := Lib.hid hz
    clear hx hz
    go_upto_region 7 with fail
    obtain ⟨y, hy⟩ : ∃ y, y = x + z := ⟨_, rfl⟩
    have ey : (x : Int) + (z : Int) = (y : Int) := by omega
    rw [ex, ez, ey]
    have y4 : (0 : Int) ≤ (y : Int) := by omega
    have y5 : (x : Int) ≤ (y : Int) := by omega
    have y6 : (y : Int) ≤ (s.size : Int) := by omega
    have y7 : (0 : Int) ≤ (x : Int) := by omega
    have y8 : x ≤ y := by omega
    have y9 : y ≤ s.size := by omega
    clear ex ez ey hy y2 y3 z1 z2 Hz Hx
    have L1d := L1.drew
    obtain ⟨D1, D3, q, C1, C3⟩ : ∃ D1 D3 : Nat → UInt8, (∀ w, (binOp .eql 26 (.agg (arr 32 (bv D1))) (.agg (arr 32 (bv D3)))).run Tryd.prog w = .ok (.bool true) w) ∧
        Hid (∀ W b, Strs W (.slice (some ⟨b, 0, none⟩) 1 1) (oneS s) 1 → Below w.heap.size w W → Calls Tryd.prog 10 #[.slice (some ⟨b, 0, none⟩) 1 1] W fun e w' => e = .returned (.agg (arr 32 (bv D1))) ∧ Below W.heap.size W w') ∧
        Hid (∀ W b, Strs W (.slice (some ⟨b, 0, none⟩) 3 3) (cutS s x y) 3 → Below w.heap.size w W → Calls Tryd.prog 10 #[.slice (some ⟨b, 0, none⟩) 3 3] W fun e w' => e = .returned (.agg (arr 32 (bv D3))) ∧ Below W.heap.size W w') :=
      ⟨_, _, eq_arr _ _ (cut_dig s x y y8 y9), fun W b hS hb => sum_any (oneS s) _ 1 W (by decide) (by rw [one_offs]; omega) hS (HKW.out _ hb), fun W b hS hb => sum_any (cutS s x y) _ 3 W (by decide) (by rw [cut_offs s x y y8 y9]; omega) hS (HKW.out _ hb)⟩
    go_region_held3 (fun w' => Below w.heap.size w w') (first | exact L1d | exact L2 | assumption | (exact Below.alloc (by assumption) (Below.size (by assumption)) _))
      (first | (go_at_call 8; refine (alive_any w1.drew (HKW.out _ L1d)).mono ?_; rintro e w2 ⟨rfl, hb2⟩; have L2 := L1d.trans (hb2.mono L1d.size)) | (go_at_call 10; (with_reducible refine (C1.out _ _ ?_ ?_).mono ?_); (first | exact strs_new _ _ _ _ _ _ (by simp) (by decide) (one_cells s) | exact Strs.alloc (strs_new _ _ _ _ _ _ (by simp) (by decide) (one_cells s)) _); assumption; rintro e w3 ⟨rfl, hb3⟩; (have L3 : Below w.heap.size w w3 := Below.trans (by assumption) (hb3.mono (Below.size (by assumption))))) | (go_at_call 10; (with_reducible refine (C3.out _ _ ?_ ?_).mono ?_); (first | exact strs_new _ _ _ _ _ _ (by simp) (by decide) (cut_cells s x y) | exact Strs.below (strs_new _ _ _ _ _ _ (by simp) (by decide) (cut_cells s x y)) hb3 | exact Strs.below (Strs.alloc (strs_new _ _ _ _ _ _ (by simp) (by decide) (cut_cells s x y)) _) hb3); assumption; rintro e w4 ⟨rfl, hb4⟩; (have L4 : Below w.heap.size w w4 := Below.trans (by assumption) (hb4.mono (Below.size (by assumption))))))
    all_goals go_wp2_with fail
    all_goals go_ret
    all_goals exact ⟨rfl, L4⟩
end Go.Proofs.YtnfhnkplkbpmpaaDoor
