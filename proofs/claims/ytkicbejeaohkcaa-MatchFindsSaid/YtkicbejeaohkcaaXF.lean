import Derived.Test.YtkicbejeaohkcaaXG
/- The law's function of MatchFinds. -/
namespace Go.Proofs.Ytkicbejeaohkcaa
open Go.RowKit
set_option maxHeartbeats 4000000 in
theorem finds_great (B s : ByteArray) (at_ : Int) (w : World) (h : 600 < B.size ∨ 600 < s.size) :
    Calls Try.prog 4 #[.string B, .string s, .int .i64 at_] w fun e w' => e = .returned (.bool true) ∧ Below w.heap.size w w' := by
  by_cases hc : 600 < B.size
  · have t1 : (600 : Int) < (B.size : Int) := by omega
    clear h hc
    go_enter Try.func4, Try.ntmps4
    go_wp2_with fail
    refine (alive_any _).mono ?_
    rintro e w1 ⟨rfl, B1⟩
    go_wp2_with fail
    refine (alive_any _).mono ?_
    rintro e w2 ⟨rfl, B2⟩
    go_wp2
    go_ret
    exact ⟨rfl, B1.trans (B2.mono B1.size)⟩
  · have t1 : (B.size : Int) ≤ 600 := by omega
    have t2 : (600 : Int) < (s.size : Int) := by omega
    clear h hc
    go_enter Try.func4, Try.ntmps4
    go_wp2_with fail
    refine (alive_any _).mono ?_
    rintro e w1 ⟨rfl, B1⟩
    go_wp2_with fail
    refine (alive_any _).mono ?_
    rintro e w2 ⟨rfl, B2⟩
    go_wp2
    go_ret
    exact ⟨rfl, B1.trans (B2.mono B1.size)⟩
set_option maxHeartbeats 4000000 in
theorem finds_any (B s : ByteArray) (at_ : Int) (w : World) (hB : B.size ≤ 600) (hs : s.size ≤ 600) :
    Calls Try.prog 4 #[.string B, .string s, .int .i64 at_] w fun e w' => e = .returned (.bool true) ∧ Below w.heap.size w w' := by
  have t1 : (B.size : Int) ≤ 600 := by omega
  have t2 : (s.size : Int) ≤ 600 := by omega
  have C1 : Hid (∀ W : World, Calls Try.prog 8 #[.string B] W fun e w' => ∃ p b, e = .returned (.pointer (some ⟨p, 0, none⟩)) ∧ Ix w' b p B ∧ Below W.heap.size W w') := fun W => mnew_any B W (by omega)
  have C2 : Hid (∀ i : Int, ∃ x y : Nat, (∀ (W : World) (b p : Nat), Ix W b p B → Calls Try.prog 9 #[.pointer (some ⟨p, 0, none⟩), .string s, .int .i64 i] W fun e w' => e = .returned (.tuple #[.int .i64 (x : Int), .int .i64 (y : Int)]) ∧ Below W.heap.size W w') ∧
      (∀ W : World, Calls Try.prog 14 #[.string B, .string s, .int .i64 i] W fun e w' => e = .returned (.tuple #[.int .i64 (x : Int), .int .i64 (y : Int)]) ∧ Below W.heap.size W w')) := fun i =>
    ⟨_, _, fun W b p h => find_any h s i (by omega) (by omega), fun W => qfind_any B s i W (by omega) (by omega)⟩
  clear hB hs
  go_enter Try.func4, Try.ntmps4
  go_wp2_with fail
  refine (alive_any _).mono ?_
  rintro e w1 ⟨rfl, B1⟩
  go_wp2_with fail
  refine (C1.out _).mono ?_
  rintro e w2 ⟨p, b, rfl, hI, B2⟩
  have HI := Lib.hid hI
  have HB := Lib.hid (B1.trans (B2.mono B1.size))
  clear hI B1 B2 C1
  go_wp2
  go_loopw [8] (fun v wr => ∃ i : Int, v = .int .i64 i ∧ -1 ≤ i ∧ i ≤ (s.size : Int) + 1 ∧ Hid (Ix wr b p B) ∧ Hid (Below w.heap.size w wr)) (fun v _ => ((s.size : Int) + 1 - intOf v).toNat)
  case atStart => exact ⟨-1, rfl, by omega, by omega, HI, HB⟩
  case round =>
    obtain ⟨i, rfl, h1, h2, hI, hL⟩ := hrel
    by_cases hlt : i ≤ (s.size : Int)
    · obtain ⟨x, y, D1, D2⟩ := C2.out i
      have w3 : IntKind.i64.wrap (i + 1) = i + 1 := IntWalk.i64_in _ (by omega)
      go_wp2_with fail
      refine (D1 _ b p hI.out).mono ?_
      rintro e w3 ⟨rfl, B3⟩
      have HI3 : Hid (Ix w3 b p B) := hI.out.below (Nat.le_refl _) B3
      have HL3 : Hid (Below w.heap.size w w3) := hL.out.trans (B3.mono hL.out.size)
      clear B3 D1 hI hL
      go_wp2_with fail
      refine (D2 _).mono ?_
      rintro e w4 ⟨rfl, B4⟩
      have HI4 : Hid (Ix w4 b p B) := HI3.out.below (Nat.le_refl _) B4
      have HL4 : Hid (Below w.heap.size w w4) := HL3.out.trans (B4.mono HL3.out.size)
      clear B4 D2 HI3 HL3
      go_wp2
      go_roundw
      case rel => exact ⟨i + 1, rfl, by omega, by omega, HI4, HL4⟩
      case measure => simp [intOf]; omega
    · obtain ⟨x, y, D1, D2⟩ := C2.out at_
      have hgt : (s.size : Int) < i := by omega
      clear hlt
      go_wp2_with fail
      refine (D1 _ b p hI.out).mono ?_
      rintro e w3 ⟨rfl, B3⟩
      have HL3 : Hid (Below w.heap.size w w3) := hL.out.trans (B3.mono hL.out.size)
      clear B3 D1 hI hL
      go_wp2_with fail
      refine (D2 _).mono ?_
      rintro e w4 ⟨rfl, B4⟩
      have HL4 : Hid (Below w.heap.size w w4) := HL3.out.trans (B4.mono HL3.out.size)
      clear B4 D2 HL3
      go_wp2_with fail
      refine (alive_any _).mono ?_
      rintro e w5 ⟨rfl, B5⟩
      go_wp2
      go_ret
      exact ⟨rfl, HL4.out.trans (B5.mono HL4.out.size)⟩
theorem matchfinds_any (B s : ByteArray) (at_ : Int) (w : World) :
    Calls Try.prog 4 #[.string B, .string s, .int .i64 at_] w fun e w' => e = .returned (.bool true) ∧ Below w.heap.size w w' := by
  by_cases h : 600 < B.size ∨ 600 < s.size
  · exact finds_great B s at_ w h
  · exact finds_any B s at_ w (by omega) (by omega)
end Go.Proofs.Ytkicbejeaohkcaa
