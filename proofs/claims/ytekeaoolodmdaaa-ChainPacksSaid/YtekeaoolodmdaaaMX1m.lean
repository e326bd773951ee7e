import Derived.Test.YtekeaoolodmdaaaProg
import Derived.Test.YtekeaoolodmdaaaMXfm
import Derived.WalkKit
import Derived.WalkSpells
import Derived.WalkLawsBesides
import Derived.Lib.Hide
/- Byte, Same, Spot. -/
namespace Go.Proofs.Ytekeaoolodmdaaa.Mt
set_option maxRecDepth 100000
open Go.RowKit
theorem ord_eq {a b : Nat} {x y : Int} (hx : Fi a x) (hy : Fi b y) (h : x = y) : FloatKind.f64.format.order a b = some .eq := by
  have e := eq_fi hx hy
  rw [decide_eq_true h] at e
  exact eq_of_beq e
theorem byte_parts : ∀ n : Nat, n < 256 → bits .and .u8 (n : Int) 15 = ((n % 16 : Nat) : Int) := by decide +kernel
set_option maxHeartbeats 400000 in
theorem byte_any (b : UInt8) (w : World) :
    Calls Try.prog 84 #[.int .u8 (b.toNat : Int)] w fun e w' => ∃ c d, e = .returned (.complex .f64 c d) ∧ Fi c (lo b) ∧ Fi d (hi b) ∧ w = w' := by
  have h1 := byte_parts b.toNat b.toNat_lt
  have l1 := lo_le b
  have l2 := hi_le b
  have f1 : Fi (floatOfInt .f64 (lo b)) (lo b) := of_int_fi (by omega)
  have f2 : Fi (floatOfInt .f64 (hi b)) (hi b) := of_int_fi (by omega)
  have e1 : ((b.toNat % 16 : Nat) : Int) = lo b := rfl
  rw [e1] at h1
  go_enter Try.func84, Try.ntmps84
  go_wp2
  go_ret
  exact ⟨_, _, rfl, f1, f2, rfl⟩
end Go.Proofs.Ytekeaoolodmdaaa.Mt
/- turned, and what is added to a number. -/
namespace Go.Proofs.Ytekeaoolodmdaaa.Mt
set_option maxRecDepth 100000
open Go.RowKit
/- a complex number that stands for a pair of whole ones, none of them beyond c -/
def Cx (a b : Nat) (x y : Int) : Prop := Fi a x ∧ Fi b y
theorem cmul_fi {a b c d : Nat} {x y p q : Int} (h : Cx a b x y) (k : Cx c d p q) (h1 : (x * p).natAbs < 4503599627370496) (h2 : (y * q).natAbs < 4503599627370496) (h3 : (x * q).natAbs < 4503599627370496) (h4 : (y * p).natAbs < 4503599627370496) :
    ∃ re im, cMulBits a b c d = some (re, im) ∧ Cx re im (x * p - y * q) (x * q + y * p) := by
  obtain ⟨r1, e1, f1⟩ := mul_fi h.1 k.1 (by omega)
  obtain ⟨r2, e2, f2⟩ := mul_fi h.2 k.2 (by omega)
  obtain ⟨r3, e3, f3⟩ := sub_fi f1 f2 (by omega)
  obtain ⟨r4, e4, f4⟩ := mul_fi h.1 k.2 (by omega)
  obtain ⟨r5, e5, f5⟩ := mul_fi h.2 k.1 (by omega)
  obtain ⟨r6, e6, f6⟩ := add_fi f4 f5 (by omega)
  refine ⟨r3, r6, ?_, f3, f6⟩
  have g1 : floatBits .mul .f64 a c = some r1 := e1
  have g2 : floatBits .mul .f64 b d = some r2 := e2
  have g3 : floatBits .sub .f64 r1 r2 = some r3 := e3
  have g4 : floatBits .mul .f64 a d = some r4 := e4
  have g5 : floatBits .mul .f64 b c = some r5 := e5
  have g6 : floatBits .add .f64 r4 r5 = some r6 := e6
  unfold cMulBits
  rw [g1, Option.bind_some, g2, Option.bind_some, g3, Option.bind_some, g4, Option.bind_some, g5, Option.bind_some, g6, Option.bind_some]
theorem cadd_fi {a b c d : Nat} {x y p q : Int} (h : Cx a b x y) (k : Cx c d p q) (h1 : (x + p).natAbs < 9007199254740992) (h2 : (y + q).natAbs < 9007199254740992) :
    ∃ re im, cSumBits .add .f64 a b c d = some (re, im) ∧ Cx re im (x + p) (y + q) := by
  obtain ⟨r1, e1, f1⟩ := add_fi h.1 k.1 h1
  obtain ⟨r2, e2, f2⟩ := add_fi h.2 k.2 h2
  refine ⟨r1, r2, ?_, f1, f2⟩
  have g1 : floatBits .add .f64 a c = some r1 := e1
  have g2 : floatBits .add .f64 b d = some r2 := e2
  unfold cSumBits
  rw [g1, Option.bind_some, g2, Option.bind_some]
theorem csub_fi {a b c d : Nat} {x y p q : Int} (h : Cx a b x y) (k : Cx c d p q) (h1 : (x - p).natAbs < 9007199254740992) (h2 : (y - q).natAbs < 9007199254740992) :
    ∃ re im, cSumBits .sub .f64 a b c d = some (re, im) ∧ Cx re im (x - p) (y - q) := by
  obtain ⟨r1, e1, f1⟩ := sub_fi h.1 k.1 h1
  obtain ⟨r2, e2, f2⟩ := sub_fi h.2 k.2 h2
  refine ⟨r1, r2, ?_, f1, f2⟩
  have g1 : floatBits .sub .f64 a c = some r1 := e1
  have g2 : floatBits .sub .f64 b d = some r2 := e2
  unfold cSumBits
  rw [g1, Option.bind_some, g2, Option.bind_some]
/- the same as runs of the operations -/
theorem cmul_run {a b c d : Nat} {x y p q : Int} (h : Cx a b x y) (k : Cx c d p q) (h1 : (x * p).natAbs < 4503599627370496) (h2 : (y * q).natAbs < 4503599627370496) (h3 : (x * q).natAbs < 4503599627370496) (h4 : (y * p).natAbs < 4503599627370496) :
    ∃ re im, (∀ w : World, (binOp .mul 74 (.complex .f64 a b) (.complex .f64 c d)).run Try.prog w = .ok (.complex .f64 re im) w) ∧ Cx re im (x * p - y * q) (x * q + y * p) := by
  obtain ⟨re, im, e, f⟩ := cmul_fi h k h1 h2 h3 h4
  exact ⟨re, im, fun w => run_complex_mul w 74 a b c d re im e, f⟩
theorem cadd_run {a b c d : Nat} {x y p q : Int} (h : Cx a b x y) (k : Cx c d p q) (h1 : (x + p).natAbs < 9007199254740992) (h2 : (y + q).natAbs < 9007199254740992) :
    ∃ re im, (∀ w : World, (binOp .add 74 (.complex .f64 a b) (.complex .f64 c d)).run Try.prog w = .ok (.complex .f64 re im) w) ∧ Cx re im (x + p) (y + q) := by
  obtain ⟨re, im, e, f⟩ := cadd_fi h k h1 h2
  exact ⟨re, im, fun w => run_complex_sum w .add (.inl rfl) 74 .f64 a b c d re im e, f⟩
theorem csub_run {a b c d : Nat} {x y p q : Int} (h : Cx a b x y) (k : Cx c d p q) (h1 : (x - p).natAbs < 9007199254740992) (h2 : (y - q).natAbs < 9007199254740992) :
    ∃ re im, (∀ w : World, (binOp .sub 74 (.complex .f64 a b) (.complex .f64 c d)).run Try.prog w = .ok (.complex .f64 re im) w) ∧ Cx re im (x - p) (y - q) := by
  obtain ⟨re, im, e, f⟩ := csub_fi h k h1 h2
  exact ⟨re, im, fun w => run_complex_sum w .sub (.inr rfl) 74 .f64 a b c d re im e, f⟩
theorem run_store_complex (P : Program) (w : World) (a : Addr) (m : Mode) (k : FloatKind) (x y : Nat) : (store a (.complex k x y) m).run P w = stored P w a (.complex k x y) m := run_store P w a _ m rfl
attribute [local go_sem] run_store_complex
/- the number by which is turned, of each of the four turns -/
def tre (r : Nat) : Nat := if r = 0 then 4607182418800017408 else if r = 2 then 13830554455654793216 else 0
def tim (r : Nat) : Nat := if r = 1 then 4607182418800017408 else if r = 3 then 13830554455654793216 else 0
theorem turn_run {a b : Nat} {x y : Int} (k : Nat) (h : Cx a b x y) (lx : x.natAbs < 1000000000000) (ly : y.natAbs < 1000000000000) :
    ∃ re im, (∀ w : World, (binOp .mul 74 (.complex .f64 a b) (.complex .f64 (tre (k % 4)) (tim (k % 4)))).run Try.prog w = .ok (.complex .f64 re im) w) ∧ Cx re im (rx k x y) (ry k x y) := by
  obtain ⟨r, hr⟩ : ∃ r, r = k % 4 := ⟨_, rfl⟩
  have hrs : r = 0 ∨ r = 1 ∨ r = 2 ∨ r = 3 := by omega
  unfold rx ry
  rw [← hr]
  clear hr
  rcases hrs with rfl | rfl | rfl | rfl
  · obtain ⟨c, d, q, f⟩ := cmul_run h ⟨fi_1, fi_0⟩ (by omega) (by omega) (by omega) (by omega)
    refine ⟨c, d, q, ?_⟩
    rw [show x * 1 - y * 0 = x by omega, show x * 0 + y * 1 = y by omega] at f
    exact f
  · obtain ⟨c, d, q, f⟩ := cmul_run h ⟨fi_0, fi_1⟩ (by omega) (by omega) (by omega) (by omega)
    refine ⟨c, d, q, ?_⟩
    rw [show x * 0 - y * 1 = -y by omega, show x * 1 + y * 0 = x by omega] at f
    exact f
  · obtain ⟨c, d, q, f⟩ := cmul_run h ⟨fi_m1, fi_0⟩ (by omega) (by omega) (by omega) (by omega)
    refine ⟨c, d, q, ?_⟩
    rw [show x * -1 - y * 0 = -x by omega, show x * 0 + y * -1 = -y by omega] at f
    exact f
  · obtain ⟨c, d, q, f⟩ := cmul_run h ⟨fi_0, fi_m1⟩ (by omega) (by omega) (by omega) (by omega)
    refine ⟨c, d, q, ?_⟩
    rw [show x * 0 - y * -1 = y by omega, show x * -1 + y * 0 = -x by omega] at f
    exact f
set_option maxHeartbeats 1000000 in
theorem turned_any {a b : Nat} {x y : Int} (k : Nat) (h : Cx a b x y) (lx : x.natAbs < 1000000000000) (ly : y.natAbs < 1000000000000) (lk : k < 1000000000000) (w : World) :
    Calls Try.prog 83 #[.complex .f64 a b, .int .i64 (k : Int)] w fun e w' => ∃ c d, e = .returned (.complex .f64 c d) ∧ Cx c d (rx k x y) (ry k x y) ∧ Below w.heap.size w w' := by
  obtain ⟨c, d, q, f⟩ := turn_run k h lx ly
  obtain ⟨X, hX⟩ : ∃ X, X = rx k x y := ⟨_, rfl⟩
  obtain ⟨Y, hY⟩ : ∃ Y, Y = ry k x y := ⟨_, rfl⟩
  rw [← hX, ← hY] at f ⊢
  obtain ⟨r, hr⟩ : ∃ r, r = k % 4 := ⟨_, rfl⟩
  have k0 : (0 : Int) ≤ (k : Int) := by omega
  have t1 : ((k : Int)).tmod 4 = (r : Int) := by rw [Int.tmod_eq_emod_of_nonneg k0]; omega
  have hrs : r = 0 ∨ r = 1 ∨ r = 2 ∨ r = 3 := by omega
  have t2 : (k : Int) % 4 = (r : Int) := by omega
  have F := Lib.hid f
  rw [← hr] at q
  clear hr hX hY f h lx ly
  rcases hrs with rfl | rfl | rfl | rfl
  · have q' : ∀ w : World, (binOp .mul 74 (.complex .f64 a b) (.complex .f64 4607182418800017408 0)).run Try.prog w = .ok (.complex .f64 c d) w := q
    clear q
    go_enter Try.func83, Try.ntmps83
    go_wp2
    go_ret
    refine ⟨_, _, rfl, F.out, ?_⟩
    exact (Below.refl _ _).alloc (Nat.le_refl _) _
  · have q' : ∀ w : World, (binOp .mul 74 (.complex .f64 a b) (.complex .f64 0 4607182418800017408)).run Try.prog w = .ok (.complex .f64 c d) w := q
    clear q
    go_enter Try.func83, Try.ntmps83
    go_wp2
    go_ret
    refine ⟨_, _, rfl, F.out, ?_⟩
    exact (Below.refl _ _).alloc (Nat.le_refl _) _
  · have q' : ∀ w : World, (binOp .mul 74 (.complex .f64 a b) (.complex .f64 13830554455654793216 0)).run Try.prog w = .ok (.complex .f64 c d) w := q
    clear q
    go_enter Try.func83, Try.ntmps83
    go_wp2
    go_ret
    refine ⟨_, _, rfl, F.out, ?_⟩
    exact (Below.refl _ _).alloc (Nat.le_refl _) _
  · have q' : ∀ w : World, (binOp .mul 74 (.complex .f64 a b) (.complex .f64 0 13830554455654793216)).run Try.prog w = .ok (.complex .f64 c d) w := q
    clear q
    go_enter Try.func83, Try.ntmps83
    go_wp2
    go_ret
    refine ⟨_, _, rfl, F.out, ?_⟩
    exact (Below.refl _ _).alloc (Nat.le_refl _) _
end Go.Proofs.Ytekeaoolodmdaaa.Mt
