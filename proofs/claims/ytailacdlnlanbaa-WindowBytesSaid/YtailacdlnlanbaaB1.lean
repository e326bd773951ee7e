import Derived.Test.YtailacdlnlanbaaW5
/- WindowBytes' function. -/
namespace Go.Proofs.Ytailacdlnlanbaa
open Go.RowKit
set_option maxHeartbeats 2000000 in
theorem bytes_any (b : UInt8) (s : ByteArray) (w : World) (hs : s.size ≤ 9223372036854775807) :
    Calls Try.prog 3 #[.int .u8 (b.toNat : Int), .string s] w fun e w' => e = .returned (.bool true) ∧ Below w.heap.size w w' := by
  by_cases h1 : 1000 < s.size
  · have b1 : (1000 : Int) < (s.size : Int) := by omega
    go_enter Try.func3, Try.ntmps3
    go_wp2_with fail
    refine (alive_any _).mono ?_
    rintro e w1 ⟨rfl, B1⟩
    go_wp2_with fail
    refine (alive_any _).mono ?_
    rintro e w2 ⟨rfl, B2⟩
    go_wp2
    go_ret
    exact ⟨rfl, B1.trans (B2.mono B1.size)⟩
  · have b1 : (s.size : Int) ≤ 1000 := by omega
    have l1 := lo_le b
    have l2 := hi_le b
    have n0 : (0 : Int) ≤ (b.toNat : Int) := by omega
    have m1 : (b.toNat : Int).tmod 16 = lo b := by rw [Int.tmod_eq_emod_of_nonneg n0]; unfold lo; omega
    have m2 : (b.toNat : Int) % 16 = lo b := by unfold lo; omega
    have m3 : (b.toNat : Int).tdiv 16 = hi b := by rw [Int.tdiv_eq_ediv_of_nonneg n0]; unfold hi; omega
    have m4 : (b.toNat : Int) / 16 = hi b := by unfold hi; omega
    have w0 : IntKind.i64.wrap (hi b) = hi b := IntWalk.i64_in _ (by omega)
    by_cases h16 : s.size = 16
    · obtain ⟨f, hf⟩ : ∃ f, f = sAt s := ⟨_, rfl⟩
      have C1 : Hid (∀ W : World, Calls Try.prog 9 #[.string s] W fun e w' => ∃ c d, e = .returned (.tuple #[.complex .f64 c d, .bool true]) ∧ Cx c d (wx f 16) (wy f 16) ∧ Below W.heap.size W w') := fun W => of_win s f W h16 (fun i _ => by rw [hf])
      have C2 : Hid (∀ W : World, Calls Try.prog 10 #[.string s, .int .i64 0] W fun e w' => e = .returned (.tuple #[.int .i64 (wx f 16), .int .i64 (wy f 16)]) ∧ Below W.heap.size W w') := fun W => parts_any s 0 f W (by omega) (by omega) (fun i _ => by rw [hf, Nat.zero_add])
      have l3 := wx_le f 16
      have b2 : (s.size : Int) = 16 := by omega
      clear hf h1 h16 b1
      generalize wx f 16 = X at C1 C2 l3
      generalize wy f 16 = Y at C1 C2 l3
      go_enter Try.func3, Try.ntmps3
      go_wp2_with fail
      refine (alive_any _).mono ?_
      rintro e w1 ⟨rfl, B1⟩
      go_wp2_with fail
      refine (byte_any _ _).mono ?_
      rintro e w2 ⟨c, d, rfl, k1, k2, rfl⟩
      have S1 : Hid (∀ W : World, Calls Try.prog 7 #[.complex .f64 c d, .int .i64 (lo b), .int .i64 (hi b)] W fun e w' => e = .returned (.bool true) ∧ W = w') := fun W => same_any k1 k2 (by omega) (by omega) W
      clear k1 k2
      go_wp2_with fail
      refine (S1.out _).mono ?_
      rintro e w2 ⟨rfl, rfl⟩
      clear S1
      go_wp2_with fail
      refine (C1.out _).mono ?_
      rintro e w2 ⟨c2, d2, rfl, hc, B2⟩
      have L2 := B1.trans (B2.mono B1.size)
      have S2 : Hid (∀ W : World, Calls Try.prog 7 #[.complex .f64 c2 d2, .int .i64 X, .int .i64 Y] W fun e w' => e = .returned (.bool true) ∧ W = w') := fun W => same_any hc.1 hc.2 (by omega) (by omega) W
      have S3 : Hid (∀ W : World, Calls Try.prog 11 #[.complex .f64 c2 d2] W fun e w' => e = .returned (.tuple #[.int .i64 (X + 240), .int .i64 (Y + 240)]) ∧ W = w') := fun W => spot_any hc.1 hc.2 (by omega) (by omega) W
      clear hc B1 B2 C1
      go_wp2_with fail
      refine (C2.out _).mono ?_
      rintro e w3 ⟨rfl, B3⟩
      have L3 := L2.trans (B3.mono L2.size)
      clear B3 L2 C2
      go_wp2_with fail
      refine (S3.out _).mono ?_
      rintro e w4 ⟨rfl, rfl⟩
      clear S3
      go_wp2_with fail
      refine (alive_any _).mono ?_
      rintro e w4 ⟨rfl, B4⟩
      have L4 := L3.trans (B4.mono L3.size)
      clear B4 L3
      go_wp2_with fail
      refine (S2.out _).mono ?_
      rintro e w5 ⟨rfl, rfl⟩
      clear S2
      have w1 : IntKind.i64.wrap (X + 240) = X + 240 := IntWalk.i64_in _ (by omega)
      have w2 : IntKind.i64.wrap (Y + 240) = Y + 240 := IntWalk.i64_in _ (by omega)
      have g1 : 0 ≤ X + 240 := by omega
      have g2 : 0 ≤ Y + 240 := by omega
      have g3 : X + 240 ≤ 480 := by omega
      have g4 : Y + 240 ≤ 480 := by omega
      go_wp2
      go_ret
      exact ⟨rfl, L4⟩
    · have C1 : Hid (∀ W : World, Calls Try.prog 9 #[.string s] W fun e w' => e = .returned (.tuple #[.complex .f64 0 0, .bool false]) ∧ W = w') := fun W => of_not s W h16 (by omega)
      have b2 : ((s.size : Int) != 16) = true := by simp; omega
      have o1 : FloatKind.f64.format.order 0 0 = some .eq := ord_eq fi_0 fi_0 rfl
      clear h1 h16
      go_enter Try.func3, Try.ntmps3
      go_wp2_with fail
      refine (alive_any _).mono ?_
      rintro e w1 ⟨rfl, B1⟩
      go_wp2_with fail
      refine (byte_any _ _).mono ?_
      rintro e w2 ⟨c, d, rfl, k1, k2, rfl⟩
      have S1 : Hid (∀ W : World, Calls Try.prog 7 #[.complex .f64 c d, .int .i64 (lo b), .int .i64 (hi b)] W fun e w' => e = .returned (.bool true) ∧ W = w') := fun W => same_any k1 k2 (by omega) (by omega) W
      clear k1 k2
      go_wp2_with fail
      refine (S1.out _).mono ?_
      rintro e w2 ⟨rfl, rfl⟩
      clear S1
      go_wp2_with fail
      refine (C1.out _).mono ?_
      rintro e w2 ⟨rfl, rfl⟩
      clear C1
      go_wp2_with fail
      refine (alive_any _).mono ?_
      rintro e w4 ⟨rfl, B4⟩
      have L4 := B1.trans (B4.mono B1.size)
      clear B4 B1
      go_wp2
      go_ret
      exact ⟨rfl, L4⟩
end Go.Proofs.Ytailacdlnlanbaa
