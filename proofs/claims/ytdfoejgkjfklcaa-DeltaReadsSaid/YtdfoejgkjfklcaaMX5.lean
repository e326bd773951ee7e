import Derived.Test.YtdfoejgkjfklcaaMX4
/- Roll, alive. -/
namespace Go.Proofs.Ytdfoejgkjfklcaa.Mt
open Go.RowKit
set_option maxHeartbeats 1000000 in
theorem roll_any {a b : Nat} {x y : Int} (o n : UInt8) (h : Cx a b x y) (lx : x.natAbs < 1000000) (ly : y.natAbs < 1000000) (w : World) :
    Calls Try.prog 56 #[.complex .f64 a b, .int .u8 (o.toNat : Int), .int .u8 (n.toNat : Int)] w fun e w' => ∃ c d, e = .returned (.complex .f64 c d) ∧ Cx c d (-y - lo o + lo n) (x - hi o + hi n) ∧ Below w.heap.size w w' := by
  have l1 := lo_le o
  have l2 := hi_le o
  have l3 := lo_le n
  have l4 := hi_le n
  have C1 : Hid (∀ W : World, Calls Try.prog 62 #[.complex .f64 a b, .int .i64 1] W fun e w' => ∃ p q, e = .returned (.complex .f64 p q) ∧ Cx p q (-y) x ∧ Below W.heap.size W w') := fun W => turned_any 1 h (by omega) (by omega) (by omega) W
  have C2 : Hid (∀ (c d : Nat) (W : World), Cx c d (lo o) (hi o) → Calls Try.prog 62 #[.complex .f64 c d, .int .i64 16] W fun e w' => ∃ p q, e = .returned (.complex .f64 p q) ∧ Cx p q (lo o) (hi o) ∧ Below W.heap.size W w') := fun c d W h => turned_any 16 h (by omega) (by omega) (by omega) W
  go_enter Try.func56, Try.ntmps56
  go_wp2_with fail
  refine (C1.out _).mono ?_
  rintro e w1 ⟨p, q, rfl, hc, hB⟩
  have HC := Lib.hid hc
  have HB := Lib.hid hB
  clear hc hB C1
  go_wp2_with fail
  refine (byte_any _ _).mono ?_
  rintro e w2 ⟨c, d, rfl, h1, h2, rfl⟩
  have K := Lib.hid (show Cx c d (lo o) (hi o) from ⟨h1, h2⟩)
  clear h1 h2
  go_wp2_with fail
  refine (C2.out _ _ _ K.out).mono ?_
  rintro e w2 ⟨c2, d2, rfl, hc, hB⟩
  obtain ⟨p3, q3, r3, hc3⟩ := csub_run HC.out hc (by omega) (by omega)
  have HC3 := Lib.hid hc3
  have HB2 := Lib.hid (HB.out.trans (hB.mono HB.out.size))
  clear hc hB hc3 HC HB C2 K
  go_wp2_with fail
  refine (byte_any _ _).mono ?_
  rintro e w2 ⟨c4, d4, rfl, h1, h2, rfl⟩
  obtain ⟨p5, q5, r5, hc5⟩ := cadd_run HC3.out (show Cx c4 d4 (lo n) (hi n) from ⟨h1, h2⟩) (by omega) (by omega)
  have HC5 := Lib.hid hc5
  clear h1 h2 hc5 HC3
  go_wp2
  go_ret
  exact ⟨_, _, rfl, HC5.out, HB2.out⟩
end Go.Proofs.Ytdfoejgkjfklcaa.Mt
