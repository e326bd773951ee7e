import Derived.Test.YtmcaapgcplhhmaaProg
import Derived.Test.YtmcaapgcplhhmaaG
import Derived.Test.YtmcaapgcplhhmaaPb
import Derived.WalkKit
import Derived.WalkSpells
import Derived.WalkLawsBesides
import Derived.Lib.Hide
import Derived.Laws.Externs
/- A sketch as a value; Byte, Abs; sums and differences of numbers as runs. -/
namespace Go.Proofs.Ytmcaapgcplhhmaa
open Go.RowKit
def sv (g : Nat → Int) (k : Nat) : Value := .complex .f64 (FB (g (2 * k))) (FB (g (2 * k + 1)))
def SV (g : Nat → Int) : Value := .agg #[.complex .f64 (FB (g 0)) (FB (g 1)), .complex .f64 (FB (g 2)) (FB (g 3)), .complex .f64 (FB (g 4)) (FB (g 5)), .complex .f64 (FB (g 6)) (FB (g 7))]
theorem sv_arr (g : Nat → Int) : #[.complex .f64 (FB (g 0)) (FB (g 1)), .complex .f64 (FB (g 2)) (FB (g 3)), .complex .f64 (FB (g 4)) (FB (g 5)), .complex .f64 (FB (g 6)) (FB (g 7))] = arr 4 (sv g) := rfl
theorem SV_arr (g : Nat → Int) : SV g = .agg (arr 4 (sv g)) := rfl
def wv (g : Nat → Int) (i : Nat) : Value := .int .i64 (g i)
def WV (g : Nat → Int) : Value := .agg #[.int .i64 (g 0), .int .i64 (g 1), .int .i64 (g 2), .int .i64 (g 3), .int .i64 (g 4), .int .i64 (g 5), .int .i64 (g 6), .int .i64 (g 7)]
theorem wv_arr (g : Nat → Int) : #[.int .i64 (g 0), .int .i64 (g 1), .int .i64 (g 2), .int .i64 (g 3), .int .i64 (g 4), .int .i64 (g 5), .int .i64 (g 6), .int .i64 (g 7)] = arr 8 (wv g) := rfl
theorem WV_arr (g : Nat → Int) : WV g = .agg (arr 8 (wv g)) := rfl
theorem SV_congr {g h : Nat → Int} (e : ∀ i, i < 8 → g i = h i) : SV g = SV h := by
  unfold SV
  rw [e 0 (by omega), e 1 (by omega), e 2 (by omega), e 3 (by omega), e 4 (by omega), e 5 (by omega), e 6 (by omega), e 7 (by omega)]
theorem byte_parts : ∀ n : Nat, n < 256 → bits .and .u8 (n : Int) 15 = ((n % 16 : Nat) : Int) := by decide +kernel
set_option maxHeartbeats 400000 in
theorem byte_any (b : UInt8) (w : World) :
    Calls Try.prog 23 #[.int .u8 (b.toNat : Int)] w fun e w' => e = .returned (.complex .f64 (FB (lo b)) (FB (hi b))) ∧ w = w' := by
  have h1 := byte_parts b.toNat b.toNat_lt
  have e1 : ((b.toNat % 16 : Nat) : Int) = lo b := rfl
  rw [e1] at h1
  go_enter Try.func23, Try.ntmps23
  go_wp2
  go_ret
  exact ⟨rfl, rfl⟩
theorem cadd_run (x y p q : Int) (hx : 0 ≤ x ∧ x < 4503599627370496) (hy : 0 ≤ y ∧ y < 4503599627370496) (hp : 0 ≤ p ∧ p < 4503599627370496) (hq : 0 ≤ q ∧ q < 4503599627370496) (w : World) :
    (binOp .add 26 (.complex .f64 (FB x) (FB y)) (.complex .f64 (FB p) (FB q))).run Try.prog w = .ok (.complex .f64 (FB (x + p)) (FB (y + q))) w := by
  refine run_complex_sum w .add (.inl rfl) 26 .f64 _ _ _ _ _ _ ?_
  have g1 : floatBits .add .f64 (FB x) (FB p) = some (FB (x + p)) := add_FB x p hx.1 hx.2 hp.1 hp.2
  have g2 : floatBits .add .f64 (FB y) (FB q) = some (FB (y + q)) := add_FB y q hy.1 hy.2 hq.1 hq.2
  unfold cSumBits
  rw [g1, Option.bind_some, g2, Option.bind_some]
theorem csub_run (x y p q : Int) (hx : 0 ≤ x ∧ x < 4503599627370496) (hy : 0 ≤ y ∧ y < 4503599627370496) (hp : 0 ≤ p ∧ p < 4503599627370496) (hq : 0 ≤ q ∧ q < 4503599627370496) (w : World) :
    (binOp .sub 26 (.complex .f64 (FB x) (FB y)) (.complex .f64 (FB p) (FB q))).run Try.prog w = .ok (.complex .f64 (FB (x - p)) (FB (y - q))) w := by
  refine run_complex_sum w .sub (.inr rfl) 26 .f64 _ _ _ _ _ _ ?_
  have g1 : floatBits .sub .f64 (FB x) (FB p) = some (FB (x - p)) := sub_FB x p hx.1 hx.2 hp.1 hp.2
  have g2 : floatBits .sub .f64 (FB y) (FB q) = some (FB (y - q)) := sub_FB y q hy.1 hy.2 hq.1 hq.2
  unfold cSumBits
  rw [g1, Option.bind_some, g2, Option.bind_some]
theorem run_bits (b : Nat) (w : World) : (callFunc 29 #[.float .f64 b]).run Try.prog w = .ok (.value (.int .u64 b)) w := by
  rw [run_callFunc_extern Try.func29 (by kernel_rfl) (by kernel_rfl) (by kernel_rfl) (e := Extern.MathFloatBits.float64bits) (by kernel_rfl)]
  rfl
theorem run_frombits (n : Nat) (w : World) : (callFunc 28 #[.int .u64 (n : Int)]).run Try.prog w = .ok (.value (.float .f64 n)) w := by
  rw [run_callFunc_extern Try.func28 (by kernel_rfl) (by kernel_rfl) (by kernel_rfl) (e := Extern.MathFloatBits.float64frombits) (by kernel_rfl)]
  rfl
set_option maxHeartbeats 400000 in
theorem abs_any (x : Int) (hx : x.natAbs < 9007199254740992) (w : World) :
    Calls Try.prog 24 #[.float .f64 (FB x)] w fun e w' => e = .returned (.float .f64 (FB (x.natAbs : Int))) ∧ w = w' := by
  have h1 := abs_FB x hx
  have h2 := fun w => run_bits (FB x) w
  have h3 := fun w => run_frombits (FB (x.natAbs : Int)) w
  generalize FB x = A at *
  generalize FB (x.natAbs : Int) = B at *
  clear hx
  go_enter Try.func24, Try.ntmps24
  go_wp2
  go_ret
  exact ⟨rfl, rfl⟩
end Go.Proofs.Ytmcaapgcplhhmaa
