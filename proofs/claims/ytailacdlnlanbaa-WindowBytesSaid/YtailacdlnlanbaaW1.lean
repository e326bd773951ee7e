import Derived.Test.YtailacdlnlanbaaProg
import Derived.Test.YtailacdlnlanbaaG
import Derived.WalkKit
import Derived.WalkSpells
import Derived.WalkLawsBesides
import Derived.Lib.Hide
/- Byte, Same, Spot. -/
namespace Go.Proofs.Ytailacdlnlanbaa
open Go.RowKit
theorem ord_eq {a b : Nat} {x y : Int} (hx : Fi a x) (hy : Fi b y) (h : x = y) : FloatKind.f64.format.order a b = some .eq := by
  have e := eq_fi hx hy
  rw [decide_eq_true h] at e
  exact eq_of_beq e
theorem byte_parts : ∀ n : Nat, n < 256 → bits .and .u8 (n : Int) 15 = ((n % 16 : Nat) : Int) := by decide +kernel
set_option maxHeartbeats 400000 in
theorem byte_any (b : UInt8) (w : World) :
    Calls Try.prog 8 #[.int .u8 (b.toNat : Int)] w fun e w' => ∃ c d, e = .returned (.complex .f64 c d) ∧ Fi c (lo b) ∧ Fi d (hi b) ∧ w = w' := by
  have h1 := byte_parts b.toNat b.toNat_lt
  have l1 := lo_le b
  have l2 := hi_le b
  have f1 : Fi (floatOfInt .f64 (lo b)) (lo b) := of_int_fi (by omega)
  have f2 : Fi (floatOfInt .f64 (hi b)) (hi b) := of_int_fi (by omega)
  have e1 : ((b.toNat % 16 : Nat) : Int) = lo b := rfl
  rw [e1] at h1
  go_enter Try.func8, Try.ntmps8
  go_wp2
  go_ret
  exact ⟨_, _, rfl, f1, f2, rfl⟩
theorem same_any {a b : Nat} {x y : Int} (hx : Fi a x) (hy : Fi b y) (lx : x.natAbs < 9007199254740992) (ly : y.natAbs < 9007199254740992) (w : World) :
    Calls Try.prog 7 #[.complex .f64 a b, .int .i64 x, .int .i64 y] w fun e w' => e = .returned (.bool true) ∧ w = w' := by
  have e1 := ord_eq hx (of_int_fi lx) rfl
  have e2 := ord_eq hy (of_int_fi ly) rfl
  go_enter Try.func7, Try.ntmps7
  go_wp2
  go_ret
  exact ⟨rfl, rfl⟩
theorem spot_any {a b : Nat} {x y : Int} (hx : Fi a x) (hy : Fi b y) (lx : x.natAbs < 1000) (ly : y.natAbs < 1000) (w : World) :
    Calls Try.prog 11 #[.complex .f64 a b] w fun e w' => e = .returned (.tuple #[.int .i64 (x + 240), .int .i64 (y + 240)]) ∧ w = w' := by
  have e1 := to_int_fi hx (by omega) (by omega)
  have e2 := to_int_fi hy (by omega) (by omega)
  have c1 := fun w => run_convert_float_int (P := Try.prog) w 38 3 .f64 .i64 a x (by kernel_rfl) (by kernel_rfl) e1
  have c2 := fun w => run_convert_float_int (P := Try.prog) w 38 3 .f64 .i64 b y (by kernel_rfl) (by kernel_rfl) e2
  have w1 : IntKind.i64.wrap (x + 240) = x + 240 := IntWalk.i64_in _ (by omega)
  have w2 : IntKind.i64.wrap (y + 240) = y + 240 := IntWalk.i64_in _ (by omega)
  go_enter Try.func11, Try.ntmps11
  go_wp2
  go_ret2
  exact ⟨rfl, rfl⟩
end Go.Proofs.Ytailacdlnlanbaa
