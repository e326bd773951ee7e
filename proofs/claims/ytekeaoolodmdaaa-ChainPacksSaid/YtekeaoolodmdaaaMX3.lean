import Derived.Test.YtekeaoolodmdaaaMX1m
import Derived.Test.YtekeaoolodmdaaaMXp
/- Of: a window's number. -/
namespace Go.Proofs.Ytekeaoolodmdaaa.Mt
set_option maxRecDepth 100000
open Go.RowKit
theorem cx_0 : Cx 0 0 0 0 := ⟨fi_0, fi_0⟩
set_option maxHeartbeats 1000000 in
theorem of_not (s : ByteArray) (w : World) (hs : s.size ≠ 16) (hs2 : s.size ≤ 9223372036854775807) :
    Calls Try.prog 75 #[.string s] w fun e w' => e = .returned (.tuple #[.complex .f64 0 0, .bool false]) ∧ w = w' := by
  have b1 : ((s.size : Int) != 16) = true := by simp; omega
  go_enter Try.func75, Try.ntmps75
  go_wp2
  go_ret2
  exact ⟨rfl, rfl⟩
set_option maxHeartbeats 1000000 in
theorem of_win (s : ByteArray) (f : Nat → UInt8) (w : World) (hs : s.size = 16) (hf : ∀ i, i < 16 → sAt s i = f i) :
    Calls Try.prog 75 #[.string s] w fun e w' => ∃ c d, e = .returned (.tuple #[.complex .f64 c d, .bool true]) ∧ Cx c d (wx f 16) (wy f 16) ∧ Below w.heap.size w w' := by
  have HF := Lib.hid hf
  have ix : ∀ i : Nat, i < 16 → ∀ w : World, (Instr.index 9 (.string s) (.int .i64 (i : Int))).run Try.prog w = .ok (.int .u8 ((f i).toNat : Int)) w := fun i hi w => by
    rw [← hf i hi]; exact idx_str s i (by omega) w
  have IX := Lib.hid ix
  clear hf ix
  have b1 : (s.size : Int) = 16 := by omega
  go_enter Try.func75, Try.ntmps75
  go_wp2
  go_loopw [4, 5, 9] (fun h _ i wr => ∃ (k : Nat) (a b : Nat), k ≤ 16 ∧ i = .int .i64 k ∧ h = .complex .f64 a b ∧ Cx a b (wx f k) (wy f k) ∧ Below w.heap.size w wr) (fun _ _ i _ => 16 - (intOf i).toNat)
  case atStart => exact ⟨0, 0, 0, by omega, rfl, rfl, cx_0, Below.refl _ _⟩
  case round =>
    obtain ⟨k, a, b, hk, rfl, rfl, hC, hB⟩ := hrel
    by_cases hlt : k < 16
    · have i1 := IX.out k hlt
      have yk : (k : Int) < 16 := by omega
      have HC := Lib.hid hC
      have HB := Lib.hid hB
      clear hC hB
      go_wp2_with fail
      refine (byte_any _ _).mono ?_
      rintro e w' ⟨c, d, rfl, h1, h2, rfl⟩
      have l1 := lo_le (f k)
      have l2 := hi_le (f k)
      have C1 : Hid (∀ W : World, Calls Try.prog 83 #[.complex .f64 c d, .int .i64 (15 - (k : Int))] W fun e w' => ∃ p q, e = .returned (.complex .f64 p q) ∧ Cx p q (rx (15 - k) (lo (f k)) (hi (f k))) (ry (15 - k) (lo (f k)) (hi (f k))) ∧ Below W.heap.size W w') := fun W => by
        have := turned_any (15 - k) (show Cx c d _ _ from ⟨h1, h2⟩) (by omega) (by omega) (by omega) W
        rw [show ((15 - k : Nat) : Int) = 15 - (k : Int) by omega] at this
        exact this
      have w1 : IntKind.i64.wrap (15 - (k : Int)) = 15 - (k : Int) := IntWalk.i64_in _ (by omega)
      have l3 := rx_le (k := 15 - k) (x := lo (f k)) (y := hi (f k)) (c := 15) (by omega) (by omega)
      have l4 := ry_le (k := 15 - k) (x := lo (f k)) (y := hi (f k)) (c := 15) (by omega) (by omega)
      have l5 := wx_le f k
      clear h1 h2 l1 l2
      go_wp2_with fail
      refine (C1.out _).mono ?_
      rintro e w' ⟨p, q, rfl, h3, h4⟩
      obtain ⟨re, im, hq, hC2⟩ := cadd_run HC.out h3 (by omega) (by omega)
      have HC2 := Lib.hid hC2
      have HB2 := Lib.hid (HB.out.trans (h4.mono HB.out.size))
      clear hC2 h3 h4 l3 l4 l5 C1
      go_wp2
      go_roundw
      case rel => exact ⟨k + 1, re, im, by omega, by go_num, rfl, HC2.out, HB2.out⟩
      case measure => simp [intOf]; omega
    · have e : k = 16 := by omega
      subst e
      go_wp2
      go_ret2
      exact ⟨a, b, rfl, hC, hB⟩
end Go.Proofs.Ytekeaoolodmdaaa.Mt
