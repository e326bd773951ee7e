import Derived.Test.YtkicbejeaohkcaaXG
/- The law's function of MatchPlaces. -/
namespace Go.Proofs.Ytkicbejeaohkcaa
open Go.RowKit
set_option maxHeartbeats 4000000 in
theorem places_great (B s : ByteArray) (at_ : Int) (w : World) (h : 600 < B.size ∨ 600 < s.size) :
    Calls Try.prog 3 #[.string B, .string s, .int .i64 at_] w fun e w' => e = .returned (.bool true) ∧ Below w.heap.size w w' := by
  by_cases hc : 600 < B.size
  · have t1 : (600 : Int) < (B.size : Int) := by omega
    clear h hc
    go_enter Try.func3, Try.ntmps3
    go_wp2_with fail
    refine (alive_any _).mono ?_
    rintro e w1 ⟨rfl, B1⟩
    go_wp2_with fail
    refine (alive_any _).mono ?_
    rintro e w2 ⟨rfl, B2⟩
    go_wp2
    go_ret
    exact ⟨rfl, B1.trans (B2.mono B1.size)⟩
  · have t1 : (B.size : Int) ≤ 600 := by omega
    have t2 : (600 : Int) < (s.size : Int) := by omega
    clear h hc
    go_enter Try.func3, Try.ntmps3
    go_wp2_with fail
    refine (alive_any _).mono ?_
    rintro e w1 ⟨rfl, B1⟩
    go_wp2_with fail
    refine (alive_any _).mono ?_
    rintro e w2 ⟨rfl, B2⟩
    go_wp2
    go_ret
    exact ⟨rfl, B1.trans (B2.mono B1.size)⟩
theorem eql_str (t : TypeId) (a : ByteArray) (w : World) : (binOp .eql t (.string a) (.string a)).run Try.prog w = .ok (.bool true) w := by
  go_simp
set_option maxHeartbeats 4000000 in
theorem placesl_any (B s : ByteArray) (at_ : Int) (w : World) (hB : B.size ≤ 600) (hs : s.size ≤ 600) :
    Calls Try.prog 3 #[.string B, .string s, .int .i64 at_] w fun e w' => e = .returned (.bool true) ∧ Below w.heap.size w w' := by
  have t1 : (B.size : Int) ≤ 600 := by omega
  have t2 : (s.size : Int) ≤ 600 := by omega
  have C1 : Hid (∀ W : World, Calls Try.prog 8 #[.string B] W fun e w' => ∃ p b, e = .returned (.pointer (some ⟨p, 0, none⟩)) ∧ Ix w' b p B ∧ Below W.heap.size W w') := fun W => mnew_any B W (by omega)
  have C2 : Hid (∀ i : Int, ∃ l : List Nat, l.length ≤ 8 ∧ (∀ (W : World) (b p : Nat), Ix W b p B → Calls Try.prog 11 #[.pointer (some ⟨p, 0, none⟩), .string s, .int .i64 i] W fun e w' => ∃ v, e = .returned v ∧ w'.ownsRow W.heap.size 3 1 v l.length (iv l) ∧ Below W.heap.size W w') ∧
      (∀ W : World, Calls Try.prog 12 #[.string B, .string s, .int .i64 i] W fun e w' => ∃ v, e = .returned v ∧ w'.ownsRow W.heap.size 3 1 v l.length (iv l) ∧ Below W.heap.size W w')) := fun i =>
    ⟨_, tri_len _ _ _ _ _, fun W b p h => places_any h s i (by omega), fun W => qplaces_any B s i W (by omega) (by omega)⟩
  clear hB hs
  go_enter Try.func3, Try.ntmps3
  go_wp2_with fail
  refine (alive_any _).mono ?_
  rintro e w1 ⟨rfl, B1⟩
  go_wp2_with fail
  refine (C1.out _).mono ?_
  rintro e w2 ⟨p, b, rfl, hI, B2⟩
  have HI := Lib.hid hI
  have HB := Lib.hid (B1.trans (B2.mono B1.size))
  clear hI B1 B2 C1
  go_wp2_with fail
  refine (find_nil s at_ _).mono ?_
  rintro e w3 ⟨rfl, rfl⟩
  go_wp2
  go_loopw [11] (fun v wr => ∃ k : Nat, v = .int .i64 (k : Int) ∧ k ≤ s.size ∧ Hid (Ix wr b p B) ∧ Hid (Below w.heap.size w wr)) (fun v _ => s.size - (intOf v).toNat)
  case atStart => exact ⟨0, rfl, Nat.zero_le _, HI, HB⟩
  case round =>
    obtain ⟨k, rfl, hk, hI, hL⟩ := hrel
    by_cases hlt : k < s.size
    · obtain ⟨l, l8, D1, D2⟩ := C2.out (k : Int)
      have yk : (k : Int) < (s.size : Int) := by omega
      have w3 : IntKind.i64.wrap ((k : Int) + 1) = (k : Int) + 1 := IntWalk.i64_in _ (by omega)
      go_wp2_with fail
      refine (D1 _ b p hI.out).mono ?_
      rintro e w3 ⟨v, rfl, hO3, B3⟩
      have HI3 : Hid (Ix w3 b p B) := hI.out.below (Nat.le_refl _) B3
      have HL3 : Hid (Below w.heap.size w w3) := hL.out.trans (B3.mono hL.out.size)
      have HO3 := Lib.hid hO3
      clear B3 D1 hI hL hO3
      go_wp2_with fail
      refine (D2 _).mono ?_
      rintro e w4 ⟨u, rfl, hO4, B4⟩
      have HI4 : Hid (Ix w4 b p B) := HI3.out.below (Nat.le_refl _) B4
      have HL4 : Hid (Below w.heap.size w w4) := HL3.out.trans (B4.mono HL3.out.size)
      have C5 := sameints_any (owns_below (row_mono HO3.out (Nat.le_refl _)) B4) hO4 l8
      clear B4 D2 HI3 HL3 HO3 hO4
      go_wp2_with fail
      refine C5.mono ?_
      rintro e w5 ⟨rfl, B5⟩
      have HI5 : Hid (Ix w5 b p B) := HI4.out.below (Nat.le_refl _) B5
      have HL5 : Hid (Below w.heap.size w w5) := HL4.out.trans (B5.mono HL4.out.size)
      clear B5 HI4 HL4 C5
      go_wp2
      go_roundw
      case rel => exact ⟨k + 1, by go_num, by omega, HI5, HL5⟩
      case measure => simp [intOf]; omega
    · obtain ⟨l, l8, D1, D2⟩ := C2.out at_
      have yk : (s.size : Int) ≤ (k : Int) := by omega
      have q9 := eql_str 9 B
      clear hlt hk
      go_wp2_with fail
      refine (alive_any _).mono ?_
      rintro e w3 ⟨rfl, B3⟩
      have HI3 : Hid (Ix w3 b p B) := hI.out.below (Nat.le_refl _) B3
      have HL3 : Hid (Below w.heap.size w w3) := hL.out.trans (B3.mono hL.out.size)
      clear B3 hI hL
      go_wp2_with fail
      refine (base_any HI3.out).mono ?_
      rintro e w4 ⟨rfl, rfl⟩
      go_wp2_with fail
      refine (D1 _ b p HI3.out).mono ?_
      rintro e w4 ⟨v, rfl, hO4, B4⟩
      have HL4 : Hid (Below w.heap.size w w4) := HL3.out.trans (B4.mono HL3.out.size)
      have HO4 := Lib.hid hO4
      clear B4 D1 HI3 HL3 hO4
      go_wp2_with fail
      refine (D2 _).mono ?_
      rintro e w5 ⟨u, rfl, hO5, B5⟩
      have HL5 : Hid (Below w.heap.size w w5) := HL4.out.trans (B5.mono HL4.out.size)
      have C5 := sameints_any (owns_below (row_mono HO4.out (Nat.le_refl _)) B5) hO5 l8
      clear B5 D2 HL4 HO4 hO5
      go_wp2_with fail
      refine C5.mono ?_
      rintro e w6 ⟨rfl, B6⟩
      have HL6 : Hid (Below w.heap.size w w6) := HL5.out.trans (B6.mono HL5.out.size)
      clear B6 HL5 C5
      go_wp2_with fail
      refine (base_nil _).mono ?_
      rintro e w7 ⟨rfl, rfl⟩
      go_wp2_with fail
      refine (places_nil s at_ _).mono ?_
      rintro e w7 ⟨rfl, rfl⟩
      go_wp2
      go_ret
      exact ⟨rfl, HL6.out⟩
theorem matchplaces_any (B s : ByteArray) (at_ : Int) (w : World) :
    Calls Try.prog 3 #[.string B, .string s, .int .i64 at_] w fun e w' => e = .returned (.bool true) ∧ Below w.heap.size w w' := by
  by_cases h : 600 < B.size ∨ 600 < s.size
  · exact places_great B s at_ w h
  · exact placesl_any B s at_ w (by omega) (by omega)
end Go.Proofs.Ytkicbejeaohkcaa
