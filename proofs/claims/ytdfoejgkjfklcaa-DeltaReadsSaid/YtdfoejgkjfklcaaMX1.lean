import Derived.Test.YtdfoejgkjfklcaaProg
import Derived.Test.YtdfoejgkjfklcaaMXg
import Derived.WalkKit
import Derived.WalkSpells
import Derived.WalkLawsBesides
import Derived.Lib.Hide
/- Byte, Same, Spot. -/
namespace Go.Proofs.Ytdfoejgkjfklcaa.Mt
open Go.RowKit
theorem ord_eq {a b : Nat} {x y : Int} (hx : Fi a x) (hy : Fi b y) (h : x = y) : FloatKind.f64.format.order a b = some .eq := by
  have e := eq_fi hx hy
  rw [decide_eq_true h] at e
  exact eq_of_beq e
theorem byte_parts : ∀ n : Nat, n < 256 → bits .and .u8 (n : Int) 15 = ((n % 16 : Nat) : Int) := by decide +kernel
set_option maxHeartbeats 400000 in
theorem byte_any (b : UInt8) (w : World) :
    Calls Try.prog 63 #[.int .u8 (b.toNat : Int)] w fun e w' => ∃ c d, e = .returned (.complex .f64 c d) ∧ Fi c (lo b) ∧ Fi d (hi b) ∧ w = w' := by
  have h1 := byte_parts b.toNat b.toNat_lt
  have l1 := lo_le b
  have l2 := hi_le b
  have f1 : Fi (floatOfInt .f64 (lo b)) (lo b) := of_int_fi (by omega)
  have f2 : Fi (floatOfInt .f64 (hi b)) (hi b) := of_int_fi (by omega)
  have e1 : ((b.toNat % 16 : Nat) : Int) = lo b := rfl
  rw [e1] at h1
  go_enter Try.func63, Try.ntmps63
  go_wp2
  go_ret
  exact ⟨_, _, rfl, f1, f2, rfl⟩
end Go.Proofs.Ytdfoejgkjfklcaa.Mt
