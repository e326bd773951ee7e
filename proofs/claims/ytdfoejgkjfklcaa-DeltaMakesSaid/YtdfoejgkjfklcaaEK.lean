import Derived.Test.YtdfoejgkjfklcaaEG
import Derived.Test.YtdfoejgkjfklcaaEH
import Derived.Test.YtdfoejgkjfklcaaEI
/- The pieces are the document's. -/
namespace Go.Proofs.Ytdfoejgkjfklcaa
set_option maxRecDepth 100000
open Go.RowKit
theorem make_long (B s : ByteArray) (w : World) (h : 4099 < B.size) : Calls Try.prog 7 #[.string B, .string s] w fun e w' => e = .returned (.slice none 0 0) ∧ w = w' := by
  have t1 : (4099 : Int) < (B.size : Int) := by omega
  clear h
  go_enter Try.func7, Try.ntmps7
  go_wp2
  go_ret
  exact ⟨rfl, rfl⟩
/- the law where it doesn't look: f1, f2 tell why -/
theorem makes_long (B s : ByteArray) (w : World) (h : 300 < B.size ∨ 300 < s.size) (h2 : ¬ (4099 < B.size ∧ B.size < 6000)) : Calls Try.prog 3 #[.string B, .string s] w fun e w' => e = .returned (.bool true) ∧ Below w.heap.size w w' := by
  have C1 : Hid (∀ W, _) := Lib.hid alive_any
  have key : ∃ r : Bool, r = true := ⟨_, rfl⟩
  have t0 : (300 : Int) < (B.size : Int) ∨ (¬ (300 : Int) < (B.size : Int) ∧ (300 : Int) < (s.size : Int)) := by omega
  have t3 : ¬ (4099 : Int) < (B.size : Int) ∨ ((4099 : Int) < (B.size : Int) ∧ ¬ (B.size : Int) < 6000) := by omega
  clear h h2 key
  rcases t0 with t1 | ⟨t1, t2⟩ <;> rcases t3 with t4 | ⟨t4, t5⟩
  all_goals
    first
    | (exfalso; omega)
    | (go_enter Try.func3, Try.ntmps3
       go_wp2_with fail
       refine (C1.out _).mono ?_
       rintro e w1 ⟨rfl, B1⟩
       have L1 := Lib.hid B1
       clear B1
       go_wp2_with fail
       refine (C1.out _).mono ?_
       rintro e w2 ⟨rfl, B2⟩
       have L2 := Lib.hid (L1.out.trans (B2.mono L1.out.size))
       clear B2
       go_wp2
       go_ret
       exact ⟨rfl, L2.out⟩)
theorem makes_none (B s : ByteArray) (w : World) (h : 4099 < B.size ∧ B.size < 6000) : Calls Try.prog 3 #[.string B, .string s] w fun e w' => e = .returned (.bool true) ∧ Below w.heap.size w w' := by
  have C1 : Hid (∀ W, _) := Lib.hid alive_any
  have C2 : Hid (∀ W, _) := Lib.hid (fun W => make_long B s W h.1)
  have t1 : (300 : Int) < (B.size : Int) := by omega
  have t4 : (4099 : Int) < (B.size : Int) := by omega
  have t5 : (B.size : Int) < 6000 := by omega
  clear h
  go_enter Try.func3, Try.ntmps3
  go_wp2_with fail
  refine (C1.out _).mono ?_
  rintro e w1 ⟨rfl, B1⟩
  have L1 := Lib.hid B1
  clear B1
  go_wp2_with fail
  refine (C1.out _).mono ?_
  rintro e w2 ⟨rfl, B2⟩
  have L2 := Lib.hid (L1.out.trans (B2.mono L1.out.size))
  clear B2
  go_wp2_with fail
  refine (C2.out _).mono ?_
  rintro e w3 ⟨rfl, rfl⟩
  go_wp2
  go_ret
  exact ⟨rfl, L2.out⟩
set_option maxHeartbeats 1000000 in
theorem makes_short (B s : List UInt8) (w : World) (hB : B.length ≤ 300) (hs : s.length ≤ 300) : Calls Try.prog 3 #[.string (bs B), .string (bs s)] w fun e w' => e = .returned (.bool true) ∧ Below w.heap.size w w' := by
  obtain ⟨hg, ht, hz⟩ := made_good (B := B) (s := s) (by omega) (by omega)
  have hge := szs_ge hg
  have C1 : Hid (∀ W, _) := Lib.hid alive_any
  have zB := bs_size B
  have zs := bs_size s
  have D1 : Hid (∀ W, _) := Lib.hid (fun W => make_any B s W (by omega) (by omega))
  have D2 : Hid (∀ W, _) := Lib.hid (fun W => qmake_any B s W (by omega) (by omega))
  have D3 : Hid (∀ W u v, RowZ W u (made B s) → RowZ W v (made B s) → Calls Try.prog 8 #[u, v] W fun e w' => e = .returned (.bool true) ∧ Below W.heap.size W w') := fun W u v h1 h2 => same_any (made B s) u v W h1 h2 (fun x hx => good_small (by omega) (hg x hx)) (by omega)
  have t1 : ((bs B).size : Int) ≤ 300 := by omega
  have t2 : ((bs s).size : Int) ≤ 300 := by omega
  generalize bs B = sB at *
  generalize bs s = sS at *
  clear hg ht hz hge zB zs hB hs
  go_enter Try.func3, Try.ntmps3
  go_wp2_with fail
  refine (C1.out _).mono ?_
  rintro e w1 ⟨rfl, B1⟩
  have L1 := Lib.hid B1
  clear B1
  go_wp2_with fail
  refine (C1.out _).mono ?_
  rintro e w2 ⟨rfl, B2⟩
  have L2 := Lib.hid (L1.out.trans (B2.mono L1.out.size))
  clear B2 C1 L1
  go_wp2_with fail
  refine (D1.out _).mono ?_
  rintro e w3 ⟨u, rfl, O3, B3⟩
  have R3 : Hid (RowZ w3 u (made B s)) := O3.row
  have L3 := Lib.hid (L2.out.trans (B3.mono L2.out.size))
  clear B3 O3 D1 L2
  go_wp2_with fail
  refine (D2.out _).mono ?_
  rintro e w4 ⟨v, rfl, O4, B4⟩
  have R4 : Hid (RowZ w4 u (made B s)) := R3.out.below B4
  have Q4 : Hid (RowZ w4 v (made B s)) := O4.row
  have L4 := Lib.hid (L3.out.trans (B4.mono L3.out.size))
  clear B4 O4 D2 L3 R3
  go_wp2_with fail
  refine (D3.out _ _ _ R4.out Q4.out).mono ?_
  rintro e w5 ⟨rfl, B5⟩
  have L5 := Lib.hid (L4.out.trans (B5.mono L4.out.size))
  clear B5 D3 L4 R4 Q4
  go_wp2
  go_ret
  exact ⟨rfl, L5.out⟩
theorem deltamakes_any (B s : ByteArray) (w : World) : Calls Try.prog 3 #[.string B, .string s] w fun e w' => e = .returned (.bool true) ∧ Below w.heap.size w w' := by
  by_cases h : 4099 < B.size ∧ B.size < 6000
  · exact makes_none B s w h
  · by_cases h2 : 300 < B.size ∨ 300 < s.size
    · exact makes_long B s w h2 h
    · have := makes_short B.data.toList s.data.toList w (by rw [len_of]; omega) (by rw [len_of]; omega)
      rw [bs_of, bs_of] at this
      exact this
end Go.Proofs.Ytdfoejgkjfklcaa
